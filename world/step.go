package world

import "annex/api"

// The greatest K of some steps.
const (
	mostTicks  = 1000
	mostServes = 1000
	mostRounds = 100
)

// step does a step: what happened.
func (s *stage) step(op api.Op) []api.Event {
	if code := s.do(op); code != api.OK {
		s.tell(refused(op, code))
	}
	told := s.told
	s.told = nil
	return told
}

// do does a step. Where it answers an error nothing has been told.
func (s *stage) do(op api.Op) api.Errno {
	switch op.Kind {
	case api.OpCall:
		return s.call(op.A, op.Call)
	case api.OpClose:
		return s.closeHandle(op.A, op.K)
	case api.OpTick:
		return s.tick(op.K)
	case api.OpServe:
		return s.serve(op.K)
	case api.OpGive:
		return s.give(op.K)
	case api.OpDrop:
		return s.Drop(op.K)
	case api.OpCopy:
		return s.double(op.K)
	case api.OpFlip:
		return s.Flip(op.K, op.M, op.X)
	case api.OpJunk:
		return s.junk(op.A, op.Data)
	case api.OpArm:
		return s.Arm(op.K)
	case api.OpCrash:
		return s.crash(op.Keep)
	case api.OpBoot:
		return s.boot()
	case api.OpRun:
		return s.run(op.K)
	case api.OpLook:
		return s.look()
	}
	return api.ErrStep
}

// refused tells of A and K what the step's kind has.
func refused(op api.Op, code api.Errno) api.Event {
	e := api.Event{Kind: api.EvRefused, Code: code}
	switch op.Kind {
	case api.OpCall, api.OpJunk:
		e.A = op.A
	case api.OpClose:
		e.A, e.K = op.A, op.K
	case api.OpTick, api.OpServe, api.OpGive, api.OpDrop, api.OpCopy, api.OpFlip, api.OpArm, api.OpRun:
		e.K = op.K
	}
	return e
}

func (s *stage) call(a int, call api.Call) api.Errno {
	if !s.isClient(a) {
		return api.ErrArg
	}
	no, code := s.clients[a].Start(s.now, call)
	if code != api.OK {
		return code
	}
	s.tell(api.Event{Kind: api.EvStarted, A: a, K: no, Call: ownCall(call)})
	s.gather(a)
	return api.OK
}

func (s *stage) closeHandle(a, h int) api.Errno {
	if !s.isClient(a) {
		return api.ErrArg
	}
	return s.clients[a].Close(h)
}

func (s *stage) tick(k int) api.Errno {
	if k < 1 || k > mostTicks {
		return api.ErrArg
	}
	for range k {
		s.now++
		for a, c := range s.clients {
			c.Tick(s.now)
			s.gather(a)
		}
	}
	return api.OK
}

func (s *stage) serve(k int) api.Errno {
	if k < 1 || k > mostServes {
		return api.ErrArg
	}
	if !s.isUp() {
		return api.ErrDown
	}
	served, end := 0, api.OK
	for served < k {
		list, code := s.server.Step()
		if code != api.OK {
			end = code
			break
		}
		s.sendAll(byServer, list)
		served++
	}
	s.tell(api.Event{Kind: api.EvServed, K: served})
	if end != api.OK {
		s.tell(api.Event{Kind: api.EvDown, Code: end, K: len(s.Pending())})
	}
	return api.OK
}

func (s *stage) give(no int) api.Errno {
	p, code := s.Take(no)
	if code != api.OK {
		return code
	}
	if p.To != api.ToServer {
		s.clients[p.To].Receive(s.now, p.Data)
		s.gather(p.To)
		return api.OK
	}
	if s.isUp() {
		s.sendAll(byServer, s.server.Receive(p.Data))
	}
	return api.OK
}

func (s *stage) double(no int) api.Errno {
	other, code := s.Copy(no)
	if code != api.OK {
		return code
	}
	s.tell(api.Event{Kind: api.EvSent, A: bySpoils, K: other})
	return api.OK
}

func (s *stage) junk(to int, data []byte) api.Errno {
	if to != api.ToServer && !s.isClient(to) {
		return api.ErrArg
	}
	s.send(bySpoils, api.Packet{To: to, Data: data})
	return api.OK
}

func (s *stage) crash(keep []bool) api.Errno {
	s.server = nil
	pending := len(s.Pending())
	s.Crash(keep)
	s.tell(api.Event{Kind: api.EvDown, K: pending, M: survivors(pending, keep)})
	return api.OK
}

// survivors tells how many of so many writes are kept.
func survivors(pending int, keep []bool) int {
	many := 0
	for _, kept := range keep[:min(pending, len(keep))] {
		if kept {
			many++
		}
	}
	return many
}

func (s *stage) boot() api.Errno {
	if s.isUp() {
		return api.ErrIsUp
	}
	if code := s.open(); code != api.OK {
		return code
	}
	s.tell(api.Event{Kind: api.EvUp, K: s.server.Epoch()})
	return api.OK
}

func (s *stage) run(k int) api.Errno {
	if k < 1 || k > mostRounds {
		return api.ErrArg
	}
	for range k {
		s.tick(1)
		s.giveAll()
		if s.isUp() {
			s.serve(len(s.clients) * s.server.Shape().Places)
		}
		s.giveAll()
	}
	return api.OK
}

// giveAll gives what is under way now; what is sent by that stays.
func (s *stage) giveAll() {
	for _, f := range s.Under() {
		s.give(f.No)
	}
}
