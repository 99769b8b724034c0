package names_test

import (
	"slices"
	"strings"
	"testing"

	"annex/api"
	"annex/names"
)

// odd are texts that are no names.
var odd = []string{"", ".", "..", "/", "a/", "/a", "a/b", "\x00", "a\x00b", strings.Repeat("x", 24)}

// noPaths are texts that are no paths, and what Split says of them.
var noPaths = map[string]api.Errno{
	"": api.ErrPath, "a": api.ErrPath, "a/b": api.ErrPath, ".": api.ErrPath, "\x00/": api.ErrPath,
	"//": api.ErrName, "/a/": api.ErrName, "//a": api.ErrName, "/a//b": api.ErrName, "/.": api.ErrName, "/a/..": api.ErrName, "/a\x00": api.ErrName,
	"/" + strings.Repeat("x", 24): api.ErrName, strings.Repeat("/", 16): api.ErrName,
	deep(17): api.ErrDeep, strings.Repeat("/", 17): api.ErrDeep, longest() + "/n": api.ErrDeep,
}

func joinIs(t *testing.T, list []string, want string, wantCode api.Errno) {
	t.Helper()
	if got, code := names.Join(list); got != want || code != wantCode {
		t.Errorf("Join(%.80q) = %.80q, %d, want %.80q, %d", list, got, code, want, wantCode)
	}
}

func TestP3_4Examples(t *testing.T) {
	joinIs(t, nil, "/", api.OK)
	joinIs(t, []string{}, "/", api.OK)
	joinIs(t, []string{"a", "b"}, "/a/b", api.OK)
	joinIs(t, []string{"a", ""}, "", api.ErrName)
}

func TestP3_4EachDepth(t *testing.T) {
	for n := 1; n <= 16; n++ {
		joinIs(t, slices.Repeat([]string{"a"}, n), deep(n), api.OK)
	}
	for n := 17; n <= 20; n++ {
		joinIs(t, slices.Repeat([]string{"a"}, n), "", api.ErrDeep)
	}
	joinIs(t, slices.Repeat([]string{strings.Repeat("n", 23)}, 16), longest(), api.OK)
	joinIs(t, slices.Repeat([]string{""}, 1<<20), "", api.ErrDeep)
}

func TestP3_4OrderOfErrors(t *testing.T) {
	for n := 1; n <= 18; n++ {
		want := api.ErrName
		if n > 16 {
			want = api.ErrDeep
		}
		for _, spoilt := range odd {
			for i := range n {
				list := slices.Repeat([]string{"a"}, n)
				list[i] = spoilt
				joinIs(t, list, "", want)
			}
		}
	}
}

func addIs(t *testing.T, path, name, want string, wantCode api.Errno) {
	t.Helper()
	if got, code := names.Add(path, name); got != want || code != wantCode {
		t.Errorf("Add(%.80q, %.80q) = %.80q, %d, want %.80q, %d", path, name, got, code, want, wantCode)
	}
}

func TestP3_5Examples(t *testing.T) {
	addIs(t, "/", "a", "/a", api.OK)
	addIs(t, "/a", "b", "/a/b", api.OK)
	addIs(t, "/a", "b/c", "", api.ErrName)
	addIs(t, "a", "", "", api.ErrPath)
	addIs(t, deep(16), "x", "", api.ErrDeep)
}

func TestP3_5EachDepth(t *testing.T) {
	addIs(t, "/", "x", "/x", api.OK)
	for n := 1; n <= 15; n++ {
		addIs(t, deep(n), "x", deep(n)+"/x", api.OK)
	}
	addIs(t, deep(15), strings.Repeat("\xff", 23), deep(15)+"/"+strings.Repeat("\xff", 23), api.OK)
	addIs(t, deep(17), "x", "", api.ErrDeep)
}

func TestP3_5OrderOfErrors(t *testing.T) {
	for path, code := range noPaths {
		addIs(t, path, "x", "", code)
		for _, name := range odd {
			addIs(t, path, name, "", code)
		}
	}
	for _, name := range odd {
		addIs(t, "/", name, "", api.ErrName)
		addIs(t, "/a", name, "", api.ErrName)
		addIs(t, deep(16), name, "", api.ErrName)
	}
}

func parentIs(t *testing.T, path, wantDir, wantName string, wantCode api.Errno) {
	t.Helper()
	if dir, name, code := names.Parent(path); dir != wantDir || name != wantName || code != wantCode {
		t.Errorf("Parent(%.80q) = %.80q, %.80q, %d, want %.80q, %.80q, %d", path, dir, name, code, wantDir, wantName, wantCode)
	}
}

func TestP3_6Examples(t *testing.T) {
	parentIs(t, "/a", "/", "a", api.OK)
	parentIs(t, "/a/b", "/a", "b", api.OK)
	parentIs(t, "/", "", "", api.ErrRoot)
}

func TestP3_6EachDepth(t *testing.T) {
	for n := 1; n <= 15; n++ {
		parentIs(t, deep(n)+"/last", deep(n), "last", api.OK)
	}
	parentIs(t, longest(), longest()[:384-24], strings.Repeat("n", 23), api.OK)
	parentIs(t, "/é/\xff.\n", "/é", "\xff.\n", api.OK)
}

func TestP3_6SplitsErrors(t *testing.T) {
	for path, code := range noPaths {
		parentIs(t, path, "", "", code)
	}
}

func TestP3_7Examples(t *testing.T) {
	for _, c := range []struct {
		path, top string
		want      bool
	}{
		{"/a/b", "/a", true},
		{"/ab", "/a", false},
		{"/a", "/a", true},
		{"/a", "/", true},
		{"/", "/a", false},
		{"/a/", "/a", false},
		{"/", "/", true},
		{"/a", "/ab", false},
		{"/a/b", "/b", false},
		{"/a/b/c", "/a/c", false},
		{"/a/b/c", "/a/b/c/d", false},
		{"/A", "/a", false},
		{longest(), "/", true},
		{longest(), longest(), true},
		{longest(), longest()[:384-24], true},
		{longest()[:384-24], longest(), false},
	} {
		if got := names.Under(c.path, c.top); got != c.want {
			t.Errorf("Under(%.80q, %.80q) = %v", c.path, c.top, got)
		}
	}
}

func TestP3_7WhatIsNoPathIsUnderNothing(t *testing.T) {
	for bad := range noPaths {
		for _, other := range []string{"/", "/a", deep(16), bad} {
			if names.Under(bad, other) {
				t.Errorf("Under(%q, %q)", bad, other)
			}
			if names.Under(other, bad) {
				t.Errorf("Under(%q, %q)", other, bad)
			}
		}
	}
}

func TestP3_7EachTwoShortTexts(t *testing.T) {
	all := texts("/.ab", 4)
	for _, path := range all {
		for _, top := range all {
			list, code := splitByWords(path)
			first, code2 := splitByWords(top)
			want := code == api.OK && code2 == api.OK && len(first) <= len(list) && slices.Equal(first, list[:len(first)])
			if got := names.Under(path, top); got != want {
				t.Fatalf("Under(%q, %q) = %v", path, top, got)
			}
		}
	}
}
