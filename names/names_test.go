package names_test

import (
	"slices"
	"strings"
	"testing"

	"annex/api"
	"annex/names"
)

// texts has all texts of up to n letters of an alphabet.
func texts(alphabet string, n int) []string {
	all := []string{""}
	from := 0
	for range n {
		longer := all[from:]
		from = len(all)
		for _, s := range longer {
			for i := range len(alphabet) {
				all = append(all, s+alphabet[i:i+1])
			}
		}
	}
	return all
}

// isName says P3.1 byte by byte.
func isName(s string) bool {
	return len(s) >= 1 && len(s) <= 23 && s != "." && s != ".." && strings.IndexByte(s, '/') < 0 && strings.IndexByte(s, 0) < 0
}

// splitByWords says P3.3 over all parts at once.
func splitByWords(path string) ([]string, api.Errno) {
	if path == "" || path[0] != '/' {
		return nil, api.ErrPath
	}
	if path == "/" {
		return nil, api.OK
	}
	list := strings.Split(path, "/")[1:]
	if len(list) > 16 {
		return nil, api.ErrDeep
	}
	if slices.ContainsFunc(list, func(s string) bool { return !isName(s) }) {
		return nil, api.ErrName
	}
	return list, api.OK
}

// deep is a path of n names.
func deep(n int) string {
	return strings.Repeat("/a", n)
}

// longest is the longest path that there is.
func longest() string {
	return strings.Repeat("/"+strings.Repeat("n", 23), 16)
}

func TestP3_1Examples(t *testing.T) {
	for _, s := range []string{"a", "a b\n", "...", strings.Repeat("\xff", 23)} {
		if code := names.Check(s); code != api.OK {
			t.Errorf("Check(%q) = %d, want OK", s, code)
		}
	}
	for _, s := range []string{"", ".", "..", "a/b", "a\x00", strings.Repeat("\xff", 24)} {
		if code := names.Check(s); code != api.ErrName {
			t.Errorf("Check(%q) = %d, want ErrName", s, code)
		}
	}
}

func checkIs(t *testing.T, name string) {
	t.Helper()
	want := api.ErrName
	if isName(name) {
		want = api.OK
	}
	if got := names.Check(name); got != want {
		t.Errorf("Check(%q) = %d, want %d", name, got, want)
	}
}

func TestP3_1EachLength(t *testing.T) {
	for n := range 30 {
		for _, letter := range []string{"a", ".", "\xff", "\x80", " "} {
			checkIs(t, strings.Repeat(letter, n))
		}
	}
	// 12 runes, but 24 bytes: the length is one of bytes.
	checkIs(t, strings.Repeat("é", 12))
	checkIs(t, strings.Repeat("é", 11)+"e")
	checkIs(t, strings.Repeat("a", 1<<20))
}

func TestP3_1EachByteAtEachPlace(t *testing.T) {
	for x := range 256 {
		for n := 1; n <= 24; n++ {
			for i := range n {
				b := []byte(strings.Repeat("a", n))
				b[i] = byte(x)
				checkIs(t, string(b))
			}
		}
	}
}

func TestP3_1EachTwoBytes(t *testing.T) {
	for x := range 256 {
		for y := range 256 {
			checkIs(t, string([]byte{byte(x), byte(y)}))
		}
	}
}

func TestP3_1BytesBesideBrokenRunes(t *testing.T) {
	for _, broken := range []string{"\xc0", "\xe2", "\xe2\x82", "\xf0\x9f\x98", "\xed\xa0\x80", "\xc0\xaf", "\xc0\x80", "\xe0\x80\xaf", "\u2215", "\uff0f", "\ufffd", "é"} {
		for _, s := range []string{broken, broken + "/", broken + "\x00", "/" + broken, "\x00" + broken, broken + ".", broken + "/" + broken} {
			checkIs(t, s)
		}
	}
}

func TestP3_1DotsAndLetters(t *testing.T) {
	for _, s := range texts("./aA\x00", 4) {
		checkIs(t, s)
	}
}

func TestP3_2LongestPath(t *testing.T) {
	path := longest()
	if len(path) != api.MaxPath {
		t.Fatalf("the longest path has %d bytes", len(path))
	}
	list, code := names.Split(path)
	if code != api.OK || len(list) != api.MaxDepth || list[15] != strings.Repeat("n", api.MaxName) {
		t.Errorf("Split of the longest path = %q, %d", list, code)
	}
	if again, code := names.Join(list); again != path || code != api.OK {
		t.Errorf("Join of the longest path's names = %q, %d", again, code)
	}
}

func TestP3_2NoPathEndsWithASlashButTheRoots(t *testing.T) {
	for n := range 16 {
		if _, code := names.Split(deep(n) + "/"); (code == api.OK) != (n == 0) {
			t.Errorf("Split(%q) = %d", deep(n)+"/", code)
		}
	}
}

func splitIs(t *testing.T, path string) {
	t.Helper()
	want, wantCode := splitByWords(path)
	got, code := names.Split(path)
	if code != wantCode || !slices.Equal(got, want) {
		t.Errorf("Split(%.80q) = %.80q, %d, want %.80q, %d", path, got, code, want, wantCode)
	}
}

func TestP3_3Examples(t *testing.T) {
	for _, c := range []struct {
		path string
		list []string
		code api.Errno
	}{
		{"/", nil, api.OK},
		{"/a/b", []string{"a", "b"}, api.OK},
		{"", nil, api.ErrPath},
		{"a", nil, api.ErrPath},
		{"a//", nil, api.ErrPath},
		{"//", nil, api.ErrName},
		{"/a/", nil, api.ErrName},
		{"/a//b", nil, api.ErrName},
		{"/./a", nil, api.ErrName},
		{deep(17), nil, api.ErrDeep},
		{strings.Repeat("/", 17), nil, api.ErrDeep},
	} {
		list, code := names.Split(c.path)
		if code != c.code || !slices.Equal(list, c.list) {
			t.Errorf("Split(%q) = %q, %d, want %q, %d", c.path, list, code, c.list, c.code)
		}
	}
}

func TestP3_3EachShortText(t *testing.T) {
	for _, s := range texts("/.a\x00", 7) {
		splitIs(t, s)
	}
}

func TestP3_3NamesInTheirOrder(t *testing.T) {
	list, code := names.Split("/one/Two/t h\n/\xff\xfe/é/...")
	if want := []string{"one", "Two", "t h\n", "\xff\xfe", "é", "..."}; code != api.OK || !slices.Equal(list, want) {
		t.Errorf("Split = %q, %d, want %q", list, code, want)
	}
}

func TestP3_3OrderOfErrors(t *testing.T) {
	for n := 14; n <= 19; n++ {
		for _, spoilt := range []string{"", ".", "..", "a\x00", strings.Repeat("x", 24), strings.Repeat("x", 23), "b"} {
			for i := range n {
				list := slices.Repeat([]string{"a"}, n)
				list[i] = spoilt
				path := "/" + strings.Join(list, "/")
				splitIs(t, path)
				splitIs(t, path[1:])
				splitIs(t, path+"/")
			}
		}
	}
}

func TestP3_3NothingBesideAnError(t *testing.T) {
	for _, path := range []string{"", "a", "a/b", "/a/", "/a/b/..", "/a/b\x00", deep(17)} {
		if list, code := names.Split(path); code == api.OK || len(list) != 0 {
			t.Errorf("Split(%q) = %q, %d", path, list, code)
		}
	}
}

func TestP3_3GreatTexts(t *testing.T) {
	const great = 1 << 20
	splitIs(t, strings.Repeat("a", great))
	splitIs(t, "/"+strings.Repeat("a", great))
	splitIs(t, strings.Repeat("/", great))
	splitIs(t, deep(great))
	splitIs(t, deep(15)+"/"+strings.Repeat("a", great))
	splitIs(t, deep(16)+"/"+strings.Repeat("a", great))
}
