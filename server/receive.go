package server

import (
	"slices"

	"annex/api"
	"annex/journal"
	"annex/ledger"
	"annex/msg"
)

// kind is what a datagram is to the server that it has come to.
type kind int

const (
	junk     kind = iota // no request, or none that may come to this server
	passed               // its client has all answers up to it
	answered             // its reply is kept
	foreign              // it is of another boot
	doubled              // it waits already
	fresh
)

// arrival is a datagram that has come, with its request and the reply that is kept for it, where there are such.
type arrival struct {
	kind    kind
	request api.Request
	kept    []byte
}

// deeds are what is done with a datagram, by its kind.
func (s *Server) deeds() []func(arrival) []api.Packet {
	return []func(arrival) []api.Packet{
		junk:     s.ignore,
		passed:   s.ignore,
		answered: s.answerAgain,
		foreign:  s.refuse,
		doubled:  s.ignore,
		fresh:    s.admit,
	}
}

func (s *Server) ignore(arrival) []api.Packet { return nil }

func (s *Server) answerAgain(a arrival) []api.Packet { return packet(a.request, a.kept) }

func (s *Server) refuse(a arrival) []api.Packet { return s.told(a.request, api.ErrEpoch) }

func (s *Server) admit(a arrival) []api.Packet {
	code := s.queue.Push(a.request.Client, a.request)
	if code == api.ErrQueueFull {
		return s.told(a.request, api.ErrBusy)
	}
	must(code)
	return nil
}

// judged asks the device only for a request that may come: nothing else can take the server down.
func (s *Server) judged(b []byte) arrival {
	r, code := msg.DecodeRequest(b)
	if code != api.OK || !s.mayCome(r) {
		return arrival{kind: junk}
	}
	t := begun(s.journal)
	defer t.Drop()
	if s.hasPassed(t, r) {
		return arrival{kind: passed}
	}
	kept, ok, code := ledger.Find(t, s.layout, r.Client, r.Seq)
	must(code)
	switch {
	case ok:
		return arrival{answered, r, kept}
	case r.Op != api.Lookup && r.Epoch != s.epoch:
		return arrival{kind: foreign, request: r}
	case s.waits(r):
		return arrival{kind: doubled}
	}
	return arrival{kind: fresh, request: r}
}

func (s *Server) mayCome(r api.Request) bool {
	shape := s.Shape()
	return r.Client < shape.Clients && r.Seq-r.Ack <= shape.Window
}

func (s *Server) hasPassed(t *journal.Tx, r api.Request) bool {
	return r.Seq <= sure(ledger.Mark(t, s.layout, r.Client))
}

func (s *Server) waits(r api.Request) bool {
	return slices.ContainsFunc(s.queue.Each(r.Client), func(w api.Request) bool { return w.Seq == r.Seq })
}

// told is a reply that is not kept: the request was not done.
func (s *Server) told(r api.Request, status api.Errno) []api.Packet {
	reply := api.Reply{Client: r.Client, Seq: r.Seq, Epoch: s.epoch, Op: r.Op, Status: status}
	return packet(r, sure(msg.EncodeReply(reply)))
}

func packet(r api.Request, b []byte) []api.Packet { return []api.Packet{{To: r.Client, Data: b}} }
