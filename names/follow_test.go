package names_test

import (
	"slices"
	"strings"
	"testing"
	"unsafe"

	"annex/api"
	"annex/names"
)

// changeable is a text over bytes that a test can change: what holds on to the text shows the change.
func changeable(s string) ([]byte, string) {
	b := []byte(s)
	return b, unsafe.String(unsafe.SliceData(b), len(b))
}

func TestP3_8JoinLeavesItsNamesAlone(t *testing.T) {
	for _, spoilt := range []string{"b", ".", ""} {
		all := []string{"a", spoilt, "c", "d"}
		was := slices.Clone(all)
		names.Join(all[:2])
		if !slices.Equal(all, was) {
			t.Errorf("Join changed %q to %q", was, all)
		}
	}
}

func TestP3_8ListsOfNamesAreNew(t *testing.T) {
	for n := range 17 {
		path := "/"
		if n > 0 {
			path = deep(n)
		}
		one, _ := names.Split(path)
		two, _ := names.Split(path)
		one = one[:cap(one)]
		for i := range one {
			one[i] = "spoilt"
		}
		if want := slices.Repeat([]string{"a"}, n); !slices.Equal(two, want) {
			t.Errorf("a list of %d names shows what was written into another one: %q", n, two)
		}
		if slices.Contains(two[:cap(two)], "spoilt") {
			t.Errorf("two lists of %d names share their spare room", n)
		}
		if three, _ := names.Split(path); !slices.Equal(three, two) {
			t.Errorf("a later list of %d names is %q", n, three)
		}
	}
}

func TestP3_8NothingIsKept(t *testing.T) {
	bytes, path := changeable("/ab/cd")
	nameBytes, name := changeable("ef")
	list, _ := names.Split(path)
	dir, last, _ := names.Parent(path)
	added, _ := names.Add(path, name)
	joined, _ := names.Join([]string{name})
	clear(bytes)
	clear(nameBytes)
	if !slices.Equal(list, []string{"ab", "cd"}) {
		t.Errorf("Split's names hold on to the path: %q", list)
	}
	if dir != "/ab" || last != "cd" {
		t.Errorf("Parent's answers hold on to the path: %q, %q", dir, last)
	}
	if added != "/ab/cd/ef" || joined != "/ef" {
		t.Errorf("Add's or Join's answer holds on to what was handed in: %q, %q", added, joined)
	}
}

// allPaths has the root's path and those of up to n of the given names.
func allPaths(some []string, n int) []string {
	all := []string{"/"}
	deepest := []string{""}
	for range n {
		var deeper []string
		for _, path := range deepest {
			for _, name := range some {
				deeper = append(deeper, path+"/"+name)
			}
		}
		all = append(all, deeper...)
		deepest = deeper
	}
	return append(all, longest(), deep(15), deep(16), "/\xff/é/a b\n")
}

func TestP3_9JoinOfSplit(t *testing.T) {
	answers := 0
	for _, path := range append(texts("/.a", 8), allPaths([]string{"a", "..."}, 5)...) {
		list, code := names.Split(path)
		if code != api.OK {
			continue
		}
		answers++
		joinIs(t, list, path, api.OK)
	}
	if answers < 100 {
		t.Errorf("only %d of the texts were paths", answers)
	}
}

func TestP3_9SplitOfJoin(t *testing.T) {
	answers := 0
	some := []string{"a", ".a", "", "..", "a/b", "\xff\n", strings.Repeat("n", 23)}
	lists := [][]string{nil, slices.Repeat([]string{"a"}, 16), slices.Repeat([]string{"a"}, 17)}
	for _, a := range some {
		lists = append(lists, []string{a})
		for _, b := range some {
			lists = append(lists, []string{a, b}, []string{b, "x", a})
		}
	}
	for _, list := range lists {
		path, code := names.Join(list)
		if code != api.OK {
			continue
		}
		answers++
		if again, code := names.Split(path); code != api.OK || !slices.Equal(again, list) {
			t.Errorf("Split(Join(%q)) = %q, %d", list, again, code)
		}
	}
	if answers != 2+4+2*4*4 {
		t.Errorf("%d of the lists had a path", answers)
	}
}

func TestP3_9ParentAndAdd(t *testing.T) {
	for _, path := range allPaths([]string{"a", "ab", "\xff"}, 4) {
		if dir, name, code := names.Parent(path); code == api.OK {
			addIs(t, dir, name, path, api.OK)
		} else if code != api.ErrRoot || path != "/" {
			t.Errorf("Parent(%q) = %d", path, code)
		}
		for _, name := range []string{"x", "...", strings.Repeat("\xff", 23)} {
			if longer, code := names.Add(path, name); code == api.OK {
				parentIs(t, longer, path, name, api.OK)
			} else if code != api.ErrDeep || strings.Count(path, "/") != 16 {
				t.Errorf("Add(%q, %q) = %d", path, name, code)
			}
		}
	}
}

// comesTo goes up from a path by Parent, as often as the deepest path has names.
func comesTo(path, top string) bool {
	for range api.MaxDepth + 1 {
		if path == top {
			return true
		}
		dir, _, code := names.Parent(path)
		if code != api.OK {
			return false
		}
		path = dir
	}
	return false
}

func TestP3_9UnderByParent(t *testing.T) {
	all := allPaths([]string{"a", "b", "ab"}, 3)
	for _, path := range all {
		for _, top := range all {
			if got, want := names.Under(path, top), comesTo(path, top); got != want {
				t.Errorf("Under(%q, %q) = %v, by Parent %v", path, top, got, want)
			}
		}
	}
}
