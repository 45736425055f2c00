// Package name is layer 1: see shared/doc/01-name.md.
package name

import (
	"slices"
	"strings"

	"afterglow/api"
)

// Pair has a watcher, and a user.
type Pair struct{ W, U string }

// Right: is s a name?
func Right(s string) bool {
	if len(s) < 1 || len(s) > api.MaxName {
		return false
	}
	// By bytes, not by runes: bytes that make up no rune are to be refused like any other.
	for i := range len(s) {
		if !rightByte(s[i]) {
			return false
		}
	}
	return true
}

func rightByte(c byte) bool {
	return 'a' <= c && c <= 'z' || '0' <= c && c <= '9'
}

// All: are all of them names?
func All(l ...string) bool {
	for _, s := range l {
		if !Right(s) {
			return false
		}
	}
	return true
}

// Cmp is -1, 0 or 1: byte by byte, and where one text ends it is the lesser one.
func Cmp(a, b string) int {
	return strings.Compare(a, b)
}

// Least is the least by Cmp, and false of none.
func Least(l ...string) (string, bool) {
	if len(l) == 0 {
		return "", false
	}
	least := l[0]
	for _, s := range l[1:] {
		if Cmp(s, least) < 0 {
			least = s
		}
	}
	return least, true
}

// Sorted is all of them by Cmp, each once.
func Sorted(l ...string) []string {
	// A row that is handed in as l... is the caller's own array: sort a copy.
	sorted := slices.Clone(l)
	slices.SortFunc(sorted, Cmp)
	return slices.Compact(sorted)
}

// Right: are both names?
func (p Pair) Right() bool {
	return All(p.W, p.U)
}

// Cmp is by W, and of one W by U.
func (p Pair) Cmp(q Pair) int {
	if c := Cmp(p.W, q.W); c != 0 {
		return c
	}
	return Cmp(p.U, q.U)
}

// Has: is s the watcher, or the user?
func (p Pair) Has(s string) bool {
	return s == p.W || s == p.U
}
