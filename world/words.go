package world

import (
	"strconv"
	"strings"

	"annex/api"
	"annex/play"
)

// words are a first word and numbers behind it.
func words(first string, numbers ...int) string {
	line := []byte(first)
	for _, n := range numbers {
		line = strconv.AppendInt(append(line, ' '), int64(n), 10)
	}
	return string(line)
}

func callText(c api.Call) string {
	text, code := play.PrintCall(c)
	if code != api.OK {
		return "?"
	}
	return text
}

func returnedLine(client int, r api.Result) string {
	more := 0
	if r.More {
		more = 1
	}
	a := r.Attr
	var line strings.Builder
	line.WriteString(words("returned", client, r.Call, r.Op, int(r.Status), r.Handle, a.Id, a.Kind, a.Size, a.Change, more))
	line.WriteString(" " + play.Text(string(r.Data)))
	for _, e := range r.List {
		line.WriteString(" " + words(play.Text(e.Name), e.Id, e.Kind))
	}
	return line.String()
}

// hexText is a word of a play: what junk could be told to send.
func hexText(data []byte) string {
	const digits = "0123456789abcdef"
	text := make([]byte, 0, 2*len(data))
	for _, b := range data {
		text = append(text, digits[b>>4], digits[b&15])
	}
	return play.Text(string(text))
}
