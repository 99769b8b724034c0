package names

import (
	"iter"
	"strings"

	"annex/api"
)

// root is the root's path, and what stands ahead of each name in any other one.
const root = "/"

// parts hands out what stands behind each slash, up to the next one or the end: empty parts too, so that they are judged like the others.
func parts(path string) iter.Seq[string] {
	return func(yield func(string) bool) {
		_, rest, more := strings.Cut(path, root)
		for more {
			var part string
			part, rest, more = strings.Cut(rest, root)
			if !yield(part) {
				return
			}
		}
	}
}

func checkAll(names []string) api.Errno {
	for _, name := range names {
		if code := Check(name); code != api.OK {
			return code
		}
	}
	return api.OK
}

// ownTexts makes the parts of a path texts of their own, so that none holds on to the path that was handed in.
func ownTexts(list []string) []string {
	for i, part := range list {
		list[i] = strings.Clone(part)
	}
	return list
}

// pathOf takes names that have been judged.
func pathOf(names []string) string {
	return root + strings.Join(names, root)
}
