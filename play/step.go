package play

import (
	"strconv"

	"annex/api"
)

// stepNumber is where a letter's number stands in a step; nil, if the letter is no number's.
func stepNumber(o *api.Op, letter rune) *int {
	switch letter {
	case 'A', 'T':
		return &o.A
	case 'K':
		return &o.K
	case 'M':
		return &o.M
	case 'X':
		return &o.X
	}
	return nil
}

// readStep takes a step's words, its name first: there is one word at least.
func readStep(words []string) (api.Op, api.Errno) {
	r := stepNamed(words[0])
	if r.no == 0 {
		return api.Op{}, api.ErrWord
	}
	o := api.Op{Kind: r.no}
	words = words[1:]
	if r.no == api.OpCall {
		own := len(r.letters)
		if len(words) <= own {
			return api.Op{}, api.ErrWords
		}
		// Ahead of the step's own number: the call's name and how many words it has are judged first.
		c, code := readCall(words[own:])
		if code != api.OK {
			return api.Op{}, code
		}
		o.Call, words = c, words[:own]
	}
	if len(words) != len(r.letters) {
		return api.Op{}, api.ErrWords
	}
	for i, letter := range r.letters {
		if code := fillStep(&o, letter, words[i]); code != api.OK {
			return api.Op{}, code
		}
	}
	return o, api.OK
}

// fillStep puts what a word says where the letter's field is.
func fillStep(o *api.Op, letter rune, word string) api.Errno {
	ok, fault := false, api.ErrNumber
	switch letter {
	case 'T':
		o.A, ok = readPlace(word)
	case 'D':
		o.Data, ok = readHex(word)
		fault = api.ErrHex
	case 'B':
		o.Keep, ok = readBits(word)
	default:
		*stepNumber(o, letter), ok = readNumber(word)
	}
	if !ok {
		return fault
	}
	return api.OK
}

func judgeStep(o api.Op) api.Errno {
	r := stepOf(o.Kind)
	if r.no == 0 {
		return api.ErrWord
	}
	if stepHasSpare(o, r.letters) {
		return api.ErrSpare
	}
	if r.no == api.OpCall {
		if code := judgeCall(o.Call); code != api.OK {
			return code
		}
	}
	for _, letter := range r.letters {
		place := stepNumber(&o, letter)
		if place == nil || letter == 'T' && *place == api.ToServer {
			continue
		}
		if !mayBeNumber(*place) {
			return api.ErrNumber
		}
	}
	return api.OK
}

// stepHasSpare tells whether anything is left of a step without the fields of these letters, and without its call if it is one.
func stepHasSpare(o api.Op, letters string) bool {
	if o.Kind == api.OpCall {
		o.Call = api.Call{}
	}
	for _, letter := range letters {
		if place := stepNumber(&o, letter); place != nil {
			*place = 0
		} else if letter == 'D' {
			o.Data = nil
		} else {
			o.Keep = nil
		}
	}
	if o.A != 0 || o.K != 0 || o.M != 0 || o.X != 0 || len(o.Data) > 0 || len(o.Keep) > 0 {
		return true
	}
	return o.Call.Op != 0 || callHasSpare(o.Call, "")
}

// bytesOfStep is for a step's lists and its call what bytesOfCall is for a call.
func bytesOfStep(o api.Op) int {
	return len(o.Data) + len(o.Keep) + bytesOfCall(o.Call)
}

// stepLine takes a step that has been judged.
func stepLine(o api.Op) string {
	r := stepOf(o.Kind)
	line := r.name
	for _, letter := range r.letters {
		line += " " + stepWord(o, letter)
	}
	if r.no == api.OpCall {
		line += " " + callText(o.Call)
	}
	return line + newline
}

func stepWord(o api.Op, letter rune) string {
	switch letter {
	case 'T':
		return placeText(o.A)
	case 'D':
		return Text(hexText(o.Data))
	case 'B':
		return Text(bitsText(o.Keep))
	}
	return strconv.Itoa(*stepNumber(&o, letter))
}
