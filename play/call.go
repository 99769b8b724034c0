package play

import (
	"strconv"

	"annex/api"
)

// callNumber is where a letter's number stands in a call; nil, if the letter is no number's.
func callNumber(c *api.Call, letter rune) *int {
	switch letter {
	case 'H':
		return &c.H
	case 'h':
		return &c.H2
	case 'O':
		return &c.Off
	case 'L':
		return &c.Len
	}
	return nil
}

// setCallText puts a text where the letter's field is, if that is one of a text.
func setCallText(c *api.Call, letter rune, text string) {
	switch letter {
	case 'P':
		c.Path = text
	case 'N':
		c.Name = text
	case 'n':
		c.Name2 = text
	case 'D':
		c.Data = append([]byte(nil), text...)
	}
}

func getCallText(c api.Call, letter rune) string {
	switch letter {
	case 'P':
		return c.Path
	case 'N':
		return c.Name
	case 'n':
		return c.Name2
	}
	return string(c.Data)
}

// readCall takes a call's words, its name first: there is one word at least.
func readCall(words []string) (api.Call, api.Errno) {
	r := callNamed(words[0])
	if r.no == 0 {
		return api.Call{}, api.ErrWord
	}
	words = words[1:]
	if len(words) != len(r.letters) {
		return api.Call{}, api.ErrWords
	}
	c := api.Call{Op: r.no}
	for i, letter := range r.letters {
		place := callNumber(&c, letter)
		if place == nil {
			setCallText(&c, letter, words[i])
			continue
		}
		n, ok := readNumber(words[i])
		if !ok {
			return api.Call{}, api.ErrNumber
		}
		*place = n
	}
	return c, api.OK
}

func judgeCall(c api.Call) api.Errno {
	r := callOf(c.Op)
	if r.no == 0 {
		return api.ErrWord
	}
	if callHasSpare(c, r.letters) {
		return api.ErrSpare
	}
	for _, letter := range r.letters {
		if place := callNumber(&c, letter); place != nil && !mayBeNumber(*place) {
			return api.ErrNumber
		}
	}
	return api.OK
}

// callHasSpare tells whether anything is left of a call without the fields of these letters.
func callHasSpare(c api.Call, letters string) bool {
	for _, letter := range letters {
		if place := callNumber(&c, letter); place != nil {
			*place = 0
		} else {
			setCallText(&c, letter, "")
		}
	}
	return c.H != 0 || c.H2 != 0 || c.Off != 0 || c.Len != 0 || bytesOfCall(c) > 0
}

// bytesOfCall tells how many bytes a call's texts have: written down they are no fewer, so where these are too many nothing needs to be written.
func bytesOfCall(c api.Call) int {
	return len(c.Path) + len(c.Name) + len(c.Name2) + len(c.Data)
}

// callText takes a call that has been judged.
func callText(c api.Call) string {
	r := callOf(c.Op)
	text := r.name
	for _, letter := range r.letters {
		if place := callNumber(&c, letter); place != nil {
			text += " " + strconv.Itoa(*place)
		} else {
			text += " " + Text(getCallText(c, letter))
		}
	}
	return text
}
