package server

import (
	"annex/api"
	"annex/journal"
	"annex/ledger"
	"annex/msg"
	"annex/tree"
)

// serve lets nothing go out ahead of the commit: whoever hears of a request that was done can rely on it.
func (s *Server) serve(r api.Request) []api.Packet {
	t := begun(s.journal)
	defer t.Drop()
	if s.hasPassed(t, r) {
		return nil
	}
	must(ledger.Raise(t, s.layout, r.Client, r.Ack))
	b := s.done(t, r)
	code := ledger.Put(t, s.layout, r.Client, r.Seq, b)
	if code == api.ErrCacheFull {
		return s.told(r, api.ErrBusy)
	}
	must(code)
	must(t.Commit())
	return packet(r, b)
}

// done does the operation: the datagram of its reply.
func (s *Server) done(t *journal.Tx, r api.Request) []byte {
	reply := sure(tree.Do(t, s.layout, r))
	reply.Epoch = s.epoch
	return sure(msg.EncodeReply(reply))
}
