package fsck

import (
	"slices"
	"sync"
	"sync/atomic"
)

// tell takes the words of one line.
type tell func(words ...string)

// line is a line of one of the parts.
type line struct {
	part int
	text string
}

// verdict gathers the lines of the parts, each part's in the order in which it told them: whose line came first is not to be seen.
type verdict struct {
	told  chan line
	done  chan struct{} // closed when no part tells anything any more
	many  atomic.Int64  // lines
	parts [][]string
}

// judged lets a hand of its own do each part. When it answers, all of them have ended.
func judged(p *picture) *verdict {
	parts := p.parts()
	v := &verdict{told: make(chan line), done: make(chan struct{}), parts: make([][]string, len(parts))}
	var hands, ear sync.WaitGroup
	for i, part := range parts {
		hands.Add(1)
		go func() {
			defer hands.Done()
			part(v.teller(i))
		}()
	}
	ear.Add(1)
	go func() {
		defer ear.Done()
		v.listen()
	}()
	hands.Wait()
	close(v.done)
	ear.Wait()
	return v
}

func (v *verdict) teller(part int) tell {
	return func(words ...string) {
		v.many.Add(1)
		v.told <- line{part, joined(words)}
	}
}

// listen never has a choice: each line is taken ahead of its hand's end, and done is closed behind that.
func (v *verdict) listen() {
	for {
		select {
		case l := <-v.told:
			v.parts[l.part] = append(v.parts[l.part], l.text)
		case <-v.done:
			return
		}
	}
}

func (v *verdict) lines() []string { return slices.Concat(v.parts...) }
