package world

import "annex/api"

func (s *stage) look() api.Errno {
	if s.isUp() {
		s.lookAtServer()
	} else {
		s.tell(api.Event{Kind: api.EvServer})
	}
	for a, c := range s.clients {
		for _, h := range c.Handles() {
			s.tell(api.Event{Kind: api.EvHandle, A: a, Handle: h})
		}
	}
	for _, f := range s.Under() {
		s.tell(api.Event{Kind: api.EvFlight, Flight: f})
	}
	return api.OK
}

// lookAtServer is for one that is up.
func (s *stage) lookAtServer() {
	waits, all := s.server.Waits(), 0
	for _, n := range waits {
		all += n
	}
	s.tell(api.Event{Kind: api.EvServer, A: 1, K: s.server.Epoch(), M: all})
	size, inodes := s.server.Usage()
	s.tell(api.Event{Kind: api.EvMark, A: byServer, K: size, M: inodes})
	for a, mark := range s.server.Marks() {
		s.tell(api.Event{Kind: api.EvMark, A: a, K: mark, M: waits[a]})
	}
	for _, k := range s.server.Kept() {
		s.tell(api.Event{Kind: api.EvKept, Kept: k})
	}
}
