package play

import (
	"strconv"

	"annex/api"
)

// mostNumber is the greatest number of a play.
const mostNumber = 1 << 30

func mayBeNumber(n int) bool { return 0 <= n && n <= mostNumber }

// readNumber takes only a number's one form, the one that is written.
func readNumber(word string) (int, bool) {
	n, err := strconv.Atoi(word)
	if err != nil || !mayBeNumber(n) || strconv.Itoa(n) != word {
		return 0, false
	}
	return n, true
}

// server is the word for api.ToServer.
const server = "server"

func readPlace(word string) (int, bool) {
	if word == server {
		return api.ToServer, true
	}
	return readNumber(word)
}

func placeText(to int) string {
	if to == api.ToServer {
		return server
	}
	return strconv.Itoa(to)
}

const hexDigits = "0123456789abcdef"

func appendHex(list []byte, b byte) []byte {
	return append(list, hexDigits[b>>4], hexDigits[b&15])
}

func hexDigit(r rune) (byte, bool) {
	switch {
	case '0' <= r && r <= '9':
		return byte(r - '0'), true
	case 'a' <= r && r <= 'f':
		return byte(r-'a') + 10, true
	case 'A' <= r && r <= 'F':
		return byte(r-'A') + 10, true
	}
	return 0, false
}

func readHex(word string) ([]byte, bool) {
	if len(word)%2 != 0 {
		return nil, false
	}
	var data []byte
	for i := 0; i < len(word); i += 2 {
		high, ok := hexDigit(rune(word[i]))
		low, also := hexDigit(rune(word[i+1]))
		if !ok || !also {
			return nil, false
		}
		data = append(data, high<<4|low)
	}
	return data, true
}

func hexText(data []byte) string {
	var list []byte
	for _, b := range data {
		list = appendHex(list, b)
	}
	return string(list)
}

func readBits(word string) ([]bool, bool) {
	var keep []bool
	for i := range len(word) {
		if word[i] != '0' && word[i] != '1' {
			return nil, false
		}
		keep = append(keep, word[i] == '1')
	}
	return keep, true
}

func bitsText(keep []bool) string {
	list := make([]byte, len(keep))
	for i, survives := range keep {
		list[i] = '0'
		if survives {
			list[i] = '1'
		}
	}
	return string(list)
}
