package world

import (
	"bytes"

	"annex/api"
	"annex/client"
	"annex/device"
	"annex/net"
	"annex/server"
)

// Who sends, beside the clients.
const (
	byServer = -1
	bySpoils = -2
)

// stage is what a world's lock guards. What can be done to the net and to the device can be done to it.
type stage struct {
	*net.Net
	*device.Device
	server  *server.Server // nil behind a crash: it could not tell by itself that it is down
	clients []*client.Client
	now     int
	told    []api.Event // of the step that is being done
}

func newStage(s api.Shape, p api.Params) *stage {
	image, code := server.Format(s)
	if code != api.OK {
		return nil
	}
	d, _ := device.Image(image) // nothing that Format makes is refused
	made := &stage{Net: net.New(), Device: d}
	for id := range s.Clients {
		c := client.New(id, s.Window, p)
		if c == nil {
			return nil
		}
		made.clients = append(made.clients, c)
	}
	made.open()
	return made
}

// open boots a server; where it is refused, none is up as before.
func (s *stage) open() api.Errno {
	v, code := server.Open(s.Device)
	s.server = v
	return code
}

// isUp tells whether a server is up.
func (s *stage) isUp() bool { return s.server != nil && s.server.Up() }

func (s *stage) isClient(a int) bool { return 0 <= a && a < len(s.clients) }

func (s *stage) tell(e api.Event) { s.told = append(s.told, e) }

// send lays a datagram on its way.
func (s *stage) send(by int, p api.Packet) {
	s.tell(api.Event{Kind: api.EvSent, A: by, K: s.Send(p)})
}

func (s *stage) sendAll(by int, list []api.Packet) {
	for _, p := range list {
		s.send(by, p)
	}
}

// gather takes from a client what it has to send, and what it has to say.
func (s *stage) gather(a int) {
	c := s.clients[a]
	for _, b := range c.Take() {
		s.send(a, api.Packet{To: api.ToServer, Data: b})
	}
	for _, r := range c.Results() {
		s.tell(api.Event{Kind: api.EvReturned, A: a, Result: r})
	}
}

// ownCall is a call that shares no memory with c.
func ownCall(c api.Call) api.Call {
	c.Data = bytes.Clone(c.Data)
	return c
}
