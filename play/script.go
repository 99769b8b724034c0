package play

import (
	"strconv"

	"annex/api"
)

// world is the name of a play's first line.
const world = "world"

// worldNumbers is where the world's numbers stand in a play, in the order of their words.
func worldNumbers(p *api.Play) []*int {
	s, t := &p.Shape, &p.Params
	return []*int{
		&s.Clients, &s.Window, &s.Places, &s.Cache, &s.Inodes, &s.Quota, &s.Data, &s.Journal,
		&t.Min, &t.First, &t.Max,
	}
}

// script is what has been read of a play.
type script struct {
	play  api.Play
	begun bool // the world's line has been read
}

// read takes the next line.
func (s *script) read(line string) api.Errno {
	words, ok := wordsOf(line)
	switch {
	case !ok:
		return api.ErrText
	case len(words) == 0:
		return api.OK
	case !s.begun:
		return s.readWorld(words)
	case len(s.play.Ops) == api.MaxOps:
		return api.ErrMany
	}
	o, code := readStep(words)
	if code != api.OK {
		return code
	}
	s.play.Ops = append(s.play.Ops, o)
	return api.OK
}

func (s *script) readWorld(words []string) api.Errno {
	places := worldNumbers(&s.play)
	if words[0] != world {
		return api.ErrPlay
	}
	words = words[1:]
	if len(words) != len(places) {
		return api.ErrWords
	}
	for i, word := range words {
		n, ok := readNumber(word)
		if !ok {
			return api.ErrNumber
		}
		*places[i] = n
	}
	s.begun = true
	return api.OK
}

// judgePlay tells all of Print's errors but that of a text that is too long.
func judgePlay(p api.Play) api.Errno {
	for _, place := range worldNumbers(&p) {
		if !mayBeNumber(*place) {
			return api.ErrNumber
		}
	}
	if len(p.Ops) > api.MaxOps {
		return api.ErrMany
	}
	for _, o := range p.Ops {
		if code := judgeStep(o); code != api.OK {
			return code
		}
	}
	return api.OK
}

// worldLine takes a play that has been judged.
func worldLine(p api.Play) []byte {
	line := []byte(world)
	for _, place := range worldNumbers(&p) {
		line = strconv.AppendInt(append(line, ' '), int64(*place), 10)
	}
	return append(line, newline...)
}
