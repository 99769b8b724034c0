package server_test

import (
	"fmt"
	"testing"

	"annex/api"
)

// story is a pair to which things happen by chance.
type story struct {
	*pair
	*chance
}

func storyOf(t *testing.T, image []byte, s api.Shape, seed int64) (*story, api.Errno) {
	p, code := pairOf(t, image)
	return &story{p, newChance(t, s, seed)}, code
}

// happens is one thing.
func (s *story) happens() {
	switch n := s.r.Intn(20); {
	case n < 11:
		s.hear(s.receive(s.datagram()))
	case n < 18:
		list, _ := s.step()
		s.hear(list)
	default:
		s.look(s.r.Intn(3))
	}
}

// again boots till that goes well; the power may fail on the way.
func (s *story) again() {
	for {
		s.crash(s.survivors(len(s.d.Pending())))
		if s.r.Intn(4) == 0 {
			s.arm(1 + s.r.Intn(10))
		}
		code := s.boot()
		if code == api.OK {
			break
		}
		is(s.pair.t, "Open", code, api.ErrPower)
	}
	s.arm(0)
	s.epoch = s.s.Epoch()
}

// TestP15_5Stories: whatever comes, the server does what the second telling does, and does it on the device write by write, wherever the power fails.
func TestP15_5Stories(t *testing.T) {
	for i, shape := range shapes() {
		for seed := range int64(12) {
			t.Run(fmt.Sprint(i, seed), func(t *testing.T) {
				t.Parallel()
				s, code := storyOf(t, imageOf(t, shape), shape, 100*int64(i)+seed)
				is(t, "Open", code, api.OK)
				for range 250 {
					s.happens()
					if seed%3 > 0 && s.r.Intn(25) == 0 {
						s.arm(1 + s.r.Intn(40))
					}
					if !s.d.Power() && s.r.Intn(3) > 0 || seed%3 > 1 && s.r.Intn(40) == 0 {
						s.again()
					}
				}
			})
		}
	}
}

// TestP15_4EveryStory: all that can happen in some calls, of few datagrams, on a narrow server.
func TestP15_4EveryStory(t *testing.T) {
	image := imageOf(t, example)
	calls := [][]byte{
		nil, // a Step
		datagram(t, lookup(from(0, 1, 0, 0), "/")),
		datagram(t, create(from(0, 2, 0, 1), 256, "a")),
		datagram(t, create(from(0, 2, 1, 1), 256, "b")),
		datagram(t, getattr(from(0, 3, 2, 1), 257)),
		datagram(t, mkdir(from(1, 1, 0, 1), 256, "d")),
		datagram(t, lookup(from(1, 2, 1, 7), "/a")),
		datagram(t, getattr(from(1, 2, 1, 0), 256)),
	}
	const length = 4
	many := 1
	for range length {
		many *= len(calls)
	}
	const parts = 16
	for part := range parts {
		t.Run(fmt.Sprint(part), func(t *testing.T) {
			t.Parallel()
			for n := part; n < many; n += parts {
				p, _ := pairOf(t, image)
				rest := n
				for range length {
					if b := calls[rest%len(calls)]; b != nil {
						p.receive(b)
					} else {
						p.step()
					}
					rest /= len(calls)
				}
				p.step()
				p.look(0)
				p.look(1)
				p.look(2)
			}
		})
	}
}
