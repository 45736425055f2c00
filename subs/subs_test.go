package subs_test

import (
	"fmt"
	"math"
	"math/rand/v2"
	"slices"
	"strings"
	"testing"

	"afterglow/api"
	"afterglow/name"
	"afterglow/span"
	"afterglow/subs"
)

const (
	least    = math.MinInt
	greatest = math.MaxInt
	forever  = api.Forever
)

// row is entries; the shorter word keeps the tables below to a line a case.
type row = []subs.Entry

func pair(w, u string) name.Pair { return name.Pair{W: w, U: u} }

func one(w, u string, from, to int) subs.Entry {
	return subs.Entry{Pair: pair(w, u), Span: span.Span{From: from, To: to}}
}

// ab, ac and ba are entries of three pairs that rise in this order.
func ab(from, to int) subs.Entry { return one("a", "b", from, to) }
func ac(from, to int) subs.Entry { return one("a", "c", from, to) }
func ba(from, to int) subs.Entry { return one("b", "a", from, to) }

// spans are those from each number up to the one behind it.
func spans(l ...int) []span.Span {
	var told []span.Span
	for ; len(l) >= 2; l = l[2:] {
		told = append(told, span.Span{From: l[0], To: l[1]})
	}
	return told
}

// The model: the chapter's words written a second time, more plainly, and by nothing but the fields.

func of(e subs.Entry, p name.Pair) bool { return e.W == p.W && e.U == p.U }

func inForce(l row, p name.Pair) bool {
	count := 0
	for _, e := range l {
		if of(e, p) && e.To == forever {
			count++
		}
	}
	return count > 0
}

// above holds the pairs as texts against each other, and then the numbers.
func above(e, o subs.Entry) bool {
	if c := slices.Compare([]string{e.W, e.U}, []string{o.W, o.U}); c != 0 {
		return c > 0
	}
	return e.From > o.From
}

func granted(l row, p name.Pair, at int) (row, api.Errno) {
	if inForce(l, p) {
		return nil, api.ErrSubsOn
	}
	e := one(p.W, p.U, at, forever)
	var told row
	put := false
	for _, o := range l {
		if !put && above(o, e) {
			told, put = append(told, e), true
		}
		told = append(told, o)
	}
	if !put {
		told = append(told, e)
	}
	return told, api.OK
}

func revoked(l row, p name.Pair, at int) (row, api.Errno) {
	if !inForce(l, p) {
		return nil, api.ErrSubsOff
	}
	var told row
	done := false
	for _, e := range l {
		if !done && of(e, p) && e.To == forever {
			done = true
			e.To = at
			if e.To <= e.From {
				continue
			}
		}
		told = append(told, e)
	}
	return told, api.OK
}

// periods joins two spans that overlap or touch, as long as there are any.
func periods(l row, p name.Pair) []span.Span {
	var told []span.Span
	for _, e := range l {
		if !of(e, p) || e.To <= e.From {
			continue
		}
		s := span.Span{From: e.From, To: e.To}
		for k := 0; k < len(told); k++ {
			if s.From <= told[k].To && told[k].From <= s.To {
				s = span.Span{From: min(s.From, told[k].From), To: max(s.To, told[k].To)}
				told = slices.Delete(told, k, k+1)
				k = -1
			}
		}
		told = append(told, s)
	}
	slices.SortFunc(told, func(s, o span.Span) int { return slices.Compare([]int{s.From}, []int{o.From}) })
	return told
}

func without(l row, u string) row {
	return slices.DeleteFunc(slices.Clone(l), func(e subs.Entry) bool { return e.W == u || e.U == u })
}

func after(l row, t int) row {
	return slices.DeleteFunc(slices.Clone(l), func(e subs.Entry) bool { return e.To <= t })
}

func right(s string) bool {
	return len(s) >= 1 && len(s) <= 12 && strings.Trim(s, "abcdefghijklmnopqrstuvwxyz0123456789") == ""
}

// rises holds each entry against all that are ahead of it.
func rises(l row) bool {
	for i, e := range l {
		if e.To <= e.From || !right(e.W) || !right(e.U) {
			return false
		}
		for _, ahead := range l[:i] {
			if !above(e, ahead) || of(e, pair(ahead.W, ahead.U)) && e.From < ahead.To {
				return false
			}
		}
	}
	return true
}

// TestEntryIsAPairAndASpan asks an entry what its parts promise.
func TestEntryIsAPairAndASpan(t *testing.T) {
	e := one("bob", "ann", 3, 5)
	if e.W != "bob" || e.U != "ann" || !e.Right() || one("bob", "", 3, 5).Right() || e.Cmp(pair("bob", "eve")) != -1 || !e.Pair.Has("ann") || e.Pair.Has("eve") {
		t.Errorf("P9.1: an entry is a pair: %v", e)
	}
	if e.From != 3 || e.To != 5 || e.None() || !ab(5, 5).None() || !e.Span.Has(4) || e.Span.Has(5) || e.Meet(span.Span{From: 4, To: 9}) != (span.Span{From: 4, To: 5}) {
		t.Errorf("P9.1: an entry is a span: %v", e)
	}
}

func TestInForce(t *testing.T) {
	for _, x := range []struct {
		l    row
		p    name.Pair
		want bool
	}{
		{nil, pair("a", "b"), false},
		{row{}, pair("a", "b"), false},
		{nil, name.Pair{}, false},
		{row{ab(3, forever)}, pair("a", "b"), true},
		{row{ab(3, 5)}, pair("a", "b"), false},
		{row{ab(3, 5), ab(7, forever)}, pair("a", "b"), true},
		{row{ab(3, 5), ab(7, 9)}, pair("a", "b"), false},
		// At the first place, in the middle, last.
		{row{ab(3, forever), ac(3, 5), ba(3, 5)}, pair("a", "b"), true},
		{row{ab(3, 5), ac(3, forever), ba(3, 5)}, pair("a", "c"), true},
		{row{ab(3, 5), ac(3, 5), ba(3, forever)}, pair("b", "a"), true},
		// In a row that does not rise.
		{row{ba(3, 5), ab(7, forever), ac(1, 2), ab(3, 5)}, pair("a", "b"), true},
		// Other pairs: of one name alone, the other way round, and such as have only the beginning.
		{row{ab(3, forever)}, pair("a", "c"), false},
		{row{ab(3, forever)}, pair("c", "b"), false},
		{row{ab(3, forever)}, pair("b", "a"), false},
		{row{ab(3, forever)}, pair("a", "bb"), false},
		{row{ab(3, forever)}, pair("ab", ""), false},
		{row{ab(3, forever)}, name.Pair{}, false},
		// Forever itself, and nothing beside it.
		{row{ab(3, forever-1)}, pair("a", "b"), false},
		{row{ab(3, forever+1)}, pair("a", "b"), false},
		{row{ab(3, greatest)}, pair("a", "b"), false},
		{row{ab(3, least)}, pair("a", "b"), false},
		{row{ab(forever, 3)}, pair("a", "b"), false},
		// It is To alone that is asked, of an entry without time, too.
		{row{ab(forever, forever)}, pair("a", "b"), true},
		{row{ab(greatest, forever)}, pair("a", "b"), true},
		{row{ab(least, forever)}, pair("a", "b"), true},
		// Names that are not right, that are empty, and that are the same.
		{row{one("A!", "\xff", 3, forever)}, pair("A!", "\xff"), true},
		{row{one("A!", "\xff", 3, forever)}, pair("A!", "\xfe"), false},
		{row{one("", "", 3, forever)}, name.Pair{}, true},
		{row{one("", "a", 3, forever)}, pair("a", ""), false},
		{row{one("a", "a", 3, forever)}, pair("a", "a"), true},
	} {
		if got := subs.InForce(x.l, x.p); got != x.want {
			t.Errorf("P9.1: InForce: %v, %v: %v", x.l, x.p, got)
		}
	}
}

func TestGrant(t *testing.T) {
	for _, x := range []struct {
		l    row
		p    name.Pair
		at   int
		want row
		err  api.Errno
	}{
		{nil, pair("a", "b"), 3, row{ab(3, forever)}, api.OK},
		{row{}, pair("a", "b"), 0, row{ab(0, forever)}, api.OK},
		// In force: at the first place, in the middle, last; whenever it is granted again.
		{row{ab(3, forever)}, pair("a", "b"), 3, nil, api.ErrSubsOn},
		{row{ab(3, forever), ac(1, 2), ba(1, 2)}, pair("a", "b"), 5, nil, api.ErrSubsOn},
		{row{ab(3, 5), ac(1, forever), ba(1, 2)}, pair("a", "c"), 0, nil, api.ErrSubsOn},
		{row{ab(3, 5), ac(1, 2), ba(1, forever)}, pair("b", "a"), 9, nil, api.ErrSubsOn},
		{row{ab(3, 5), ab(7, forever), ac(1, 2)}, pair("a", "b"), 9, nil, api.ErrSubsOn},
		{row{ab(7, forever), ab(3, 5)}, pair("a", "b"), 9, nil, api.ErrSubsOn},
		{row{ab(3, forever)}, pair("a", "b"), forever, nil, api.ErrSubsOn},
		{row{ab(forever, forever)}, pair("a", "b"), 3, nil, api.ErrSubsOn},
		// Revoked before.
		{row{ab(3, 5)}, pair("a", "b"), 9, row{ab(3, 5), ab(9, forever)}, api.OK},
		{row{ab(3, 5)}, pair("a", "b"), 5, row{ab(3, 5), ab(5, forever)}, api.OK},
		{row{ab(3, 5), ab(6, 8), ac(1, 2)}, pair("a", "b"), 9, row{ab(3, 5), ab(6, 8), ab(9, forever), ac(1, 2)}, api.OK},
		// Ahead of entries of the pair itself, between them, and at the same time as one: behind it.
		{row{ab(3, 5), ab(7, 9)}, pair("a", "b"), 2, row{ab(2, forever), ab(3, 5), ab(7, 9)}, api.OK},
		{row{ab(3, 5), ab(7, 9)}, pair("a", "b"), 4, row{ab(3, 5), ab(4, forever), ab(7, 9)}, api.OK},
		{row{ab(3, 5), ab(7, 9)}, pair("a", "b"), 3, row{ab(3, 5), ab(3, forever), ab(7, 9)}, api.OK},
		{row{ab(3, 5), ab(7, 9)}, pair("a", "b"), 7, row{ab(3, 5), ab(7, 9), ab(7, forever)}, api.OK},
		// A pair below all, between, above all; its time does not count.
		{row{ab(3, 5), ba(3, 5)}, pair("a", "a"), 9, row{one("a", "a", 9, forever), ab(3, 5), ba(3, 5)}, api.OK},
		{row{ab(3, 5), ba(3, 5)}, pair("a", "c"), 1, row{ab(3, 5), ac(1, forever), ba(3, 5)}, api.OK},
		{row{ab(3, 5), ba(3, 5)}, pair("a", "c"), 9, row{ab(3, 5), ac(9, forever), ba(3, 5)}, api.OK},
		{row{ab(3, 5), ba(3, 5)}, pair("c", "a"), 1, row{ab(3, 5), ba(3, 5), one("c", "a", 1, forever)}, api.OK},
		// By W ahead of U, and byte by byte.
		{row{one("a", "z", 1, 2), one("b", "a", 1, 2)}, pair("aa", "a"), 3, row{one("a", "z", 1, 2), one("aa", "a", 3, forever), one("b", "a", 1, 2)}, api.OK},
		{row{one("a", "b", 1, 2)}, pair("a", "9"), 3, row{one("a", "9", 3, forever), one("a", "b", 1, 2)}, api.OK},
		{row{one("a", "b", 1, 2)}, pair("a", "10"), 3, row{one("a", "10", 3, forever), one("a", "b", 1, 2)}, api.OK},
		// Another pair that is in force is of no account.
		{row{ab(3, forever)}, pair("b", "a"), 4, row{ab(3, forever), ba(4, forever)}, api.OK},
		{row{ba(3, forever)}, pair("a", "b"), 4, row{ab(4, forever), ba(3, forever)}, api.OK},
		// In a row that does not rise it is the first one above that tells the place.
		{row{ba(3, 5), ab(3, 5)}, pair("a", "c"), 4, row{ac(4, forever), ba(3, 5), ab(3, 5)}, api.OK},
		{row{ab(7, 9), ab(3, 5)}, pair("a", "b"), 4, row{ab(4, forever), ab(7, 9), ab(3, 5)}, api.OK},
		{row{ab(1, 2), ba(3, 5), ab(3, 5), ba(1, 2)}, pair("a", "c"), 4, row{ab(1, 2), ac(4, forever), ba(3, 5), ab(3, 5), ba(1, 2)}, api.OK},
		{row{ab(5, 3), ab(4, 4)}, pair("a", "b"), 5, row{ab(5, 3), ab(4, 4), ab(5, forever)}, api.OK},
		// Times below 0, and at both ends: it is told from at up to Forever, be there time or not.
		{row{ab(-5, -3)}, pair("a", "b"), -3, row{ab(-5, -3), ab(-3, forever)}, api.OK},
		{row{ab(-5, -3)}, pair("a", "b"), -9, row{ab(-9, forever), ab(-5, -3)}, api.OK},
		{nil, pair("a", "b"), least, row{ab(least, forever)}, api.OK},
		{row{ab(least, 5), ab(0, 5)}, pair("a", "b"), least, row{ab(least, 5), ab(least, forever), ab(0, 5)}, api.OK},
		{nil, pair("a", "b"), forever - 1, row{ab(forever-1, forever)}, api.OK},
		{nil, pair("a", "b"), forever, row{ab(forever, forever)}, api.OK},
		{row{ab(3, 5), ac(1, 2)}, pair("a", "b"), forever + 1, row{ab(3, 5), ab(forever+1, forever), ac(1, 2)}, api.OK},
		{row{ab(3, 5), ac(1, 2)}, pair("a", "b"), greatest, row{ab(3, 5), ab(greatest, forever), ac(1, 2)}, api.OK},
		{row{ab(3, greatest)}, pair("a", "b"), 9, row{ab(3, greatest), ab(9, forever)}, api.OK},
		// Names that are not right, that are empty, and that are the same.
		{row{ab(3, 5)}, pair("A", "\xff"), 4, row{one("A", "\xff", 4, forever), ab(3, 5)}, api.OK},
		{row{ab(3, 5)}, pair("\xff", "A"), 4, row{ab(3, 5), one("\xff", "A", 4, forever)}, api.OK},
		{row{ab(3, 5)}, pair("a", strings.Repeat("b", 13)), 4, row{ab(3, 5), one("a", "bbbbbbbbbbbbb", 4, forever)}, api.OK},
		{row{ab(3, 5)}, name.Pair{}, 4, row{one("", "", 4, forever), ab(3, 5)}, api.OK},
		{row{ab(3, 5)}, pair("a", ""), 4, row{one("a", "", 4, forever), ab(3, 5)}, api.OK},
		{row{one("", "", 4, forever)}, name.Pair{}, 5, nil, api.ErrSubsOn},
		{row{ab(3, 5)}, pair("b", "b"), 4, row{ab(3, 5), one("b", "b", 4, forever)}, api.OK},
	} {
		got, err := subs.Grant(x.l, x.p, x.at)
		if err != x.err || !slices.Equal(got, x.want) {
			t.Errorf("P9.1: Grant: %v, %v, %d: %v, %d", x.l, x.p, x.at, got, err)
		}
	}
}

func TestRevoke(t *testing.T) {
	for _, x := range []struct {
		l    row
		p    name.Pair
		at   int
		want row
		err  api.Errno
	}{
		// Never granted, and not in force any more.
		{nil, pair("a", "b"), 3, nil, api.ErrSubsOff},
		{row{}, pair("a", "b"), 3, nil, api.ErrSubsOff},
		{row{ab(3, forever)}, pair("a", "c"), 5, nil, api.ErrSubsOff},
		{row{ab(3, forever)}, pair("b", "a"), 5, nil, api.ErrSubsOff},
		{row{ab(3, forever), ba(3, forever)}, pair("b", "b"), 5, nil, api.ErrSubsOff},
		{row{ab(3, 5)}, pair("a", "b"), 4, nil, api.ErrSubsOff},
		{row{ab(3, 5), ab(7, 9), ac(1, forever)}, pair("a", "b"), 9, nil, api.ErrSubsOff},
		{row{ab(3, forever-1)}, pair("a", "b"), 9, nil, api.ErrSubsOff},
		{row{ab(3, forever+1)}, pair("a", "b"), 9, nil, api.ErrSubsOff},
		{row{ab(3, greatest)}, pair("a", "b"), 9, nil, api.ErrSubsOff},
		// At the time of the grant, below it, and above it.
		{row{ab(3, forever)}, pair("a", "b"), 3, nil, api.OK},
		{row{ab(3, forever)}, pair("a", "b"), 2, nil, api.OK},
		{row{ab(3, forever)}, pair("a", "b"), 4, row{ab(3, 4)}, api.OK},
		{row{ab(3, forever)}, pair("a", "b"), 9, row{ab(3, 9)}, api.OK},
		{row{ab(1, 2), ab(3, forever), ac(4, 5)}, pair("a", "b"), 3, row{ab(1, 2), ac(4, 5)}, api.OK},
		{row{ab(1, 2), ab(3, forever), ac(4, 5)}, pair("a", "b"), 0, row{ab(1, 2), ac(4, 5)}, api.OK},
		// At the first place, in the middle, last.
		{row{ab(3, forever), ac(3, forever), ba(3, forever)}, pair("a", "b"), 9, row{ab(3, 9), ac(3, forever), ba(3, forever)}, api.OK},
		{row{ab(3, forever), ac(3, forever), ba(3, forever)}, pair("a", "c"), 9, row{ab(3, forever), ac(3, 9), ba(3, forever)}, api.OK},
		{row{ab(3, forever), ac(3, forever), ba(3, forever)}, pair("b", "a"), 9, row{ab(3, forever), ac(3, forever), ba(3, 9)}, api.OK},
		{row{ab(3, forever), ac(3, forever)}, pair("a", "b"), 3, row{ac(3, forever)}, api.OK},
		{row{ab(3, forever), ac(3, forever)}, pair("a", "c"), 3, row{ab(3, forever)}, api.OK},
		{row{ab(3, 5), ab(7, forever)}, pair("a", "b"), 9, row{ab(3, 5), ab(7, 9)}, api.OK},
		// Two that are both in force: the first one alone, whichever began first.
		{row{ab(3, forever), ab(5, forever)}, pair("a", "b"), 9, row{ab(3, 9), ab(5, forever)}, api.OK},
		{row{ab(5, forever), ab(3, forever)}, pair("a", "b"), 9, row{ab(5, 9), ab(3, forever)}, api.OK},
		{row{ab(5, forever), ab(3, forever)}, pair("a", "b"), 4, row{ab(3, forever)}, api.OK},
		{row{ab(3, forever), ab(3, forever)}, pair("a", "b"), 9, row{ab(3, 9), ab(3, forever)}, api.OK},
		{row{ab(3, forever), ab(3, forever)}, pair("a", "b"), 3, row{ab(3, forever)}, api.OK},
		// In a row that does not rise it stays in its place.
		{row{ba(3, 5), ab(7, forever), ac(1, 2), ab(3, 5)}, pair("a", "b"), 9, row{ba(3, 5), ab(7, 9), ac(1, 2), ab(3, 5)}, api.OK},
		{row{ba(9, 2), ab(7, forever), ac(1, 1)}, pair("a", "b"), 7, row{ba(9, 2), ac(1, 1)}, api.OK},
		// Times below 0, and at both ends.
		{row{ab(-5, forever)}, pair("a", "b"), -3, row{ab(-5, -3)}, api.OK},
		{row{ab(-5, forever)}, pair("a", "b"), -5, nil, api.OK},
		{row{ab(-5, forever)}, pair("a", "b"), 0, row{ab(-5, 0)}, api.OK},
		{row{ab(3, forever)}, pair("a", "b"), -1, nil, api.OK},
		{row{ab(3, forever)}, pair("a", "b"), least, nil, api.OK},
		{row{ab(least, forever)}, pair("a", "b"), least, nil, api.OK},
		{row{ab(least, forever)}, pair("a", "b"), least + 1, row{ab(least, least+1)}, api.OK},
		{row{ab(least, forever)}, pair("a", "b"), greatest, row{ab(least, greatest)}, api.OK},
		{row{ab(3, forever)}, pair("a", "b"), forever - 1, row{ab(3, forever-1)}, api.OK},
		{row{ab(3, forever)}, pair("a", "b"), forever, row{ab(3, forever)}, api.OK},
		{row{ab(3, forever)}, pair("a", "b"), forever + 1, row{ab(3, forever+1)}, api.OK},
		{row{ab(3, forever)}, pair("a", "b"), greatest, row{ab(3, greatest)}, api.OK},
		{row{ab(forever, forever)}, pair("a", "b"), 9, nil, api.OK},
		{row{ab(forever, forever)}, pair("a", "b"), forever, nil, api.OK},
		{row{ab(forever, forever)}, pair("a", "b"), greatest, row{ab(forever, greatest)}, api.OK},
		{row{ab(greatest, forever)}, pair("a", "b"), greatest, nil, api.OK},
		// Names that are not right, that are empty, and that are the same.
		{row{one("A", "\xff", 3, forever)}, pair("A", "\xff"), 5, row{one("A", "\xff", 3, 5)}, api.OK},
		{row{one("A", "\xff", 3, forever)}, pair("A", "\xfe"), 5, nil, api.ErrSubsOff},
		{row{ab(3, forever)}, pair("A", "b"), 5, nil, api.ErrSubsOff},
		{row{ab(3, forever)}, name.Pair{}, 5, nil, api.ErrSubsOff},
		{row{ab(3, forever)}, pair("a", ""), 5, nil, api.ErrSubsOff},
		{row{one("", "", 3, forever)}, name.Pair{}, 5, row{one("", "", 3, 5)}, api.OK},
		{row{one("a", "a", 3, forever)}, pair("a", "a"), 5, row{one("a", "a", 3, 5)}, api.OK},
	} {
		got, err := subs.Revoke(x.l, x.p, x.at)
		if err != x.err || !slices.Equal(got, x.want) {
			t.Errorf("P9.1: Revoke: %v, %v, %d: %v, %d", x.l, x.p, x.at, got, err)
		}
	}
}

func TestPeriods(t *testing.T) {
	for _, x := range []struct {
		l    row
		p    name.Pair
		want []span.Span
	}{
		{nil, pair("a", "b"), nil},
		{row{}, name.Pair{}, nil},
		{row{ab(3, 5)}, pair("a", "b"), spans(3, 5)},
		{row{ab(3, forever)}, pair("a", "b"), spans(3, forever)},
		// A pair without entries.
		{row{ab(3, 5), ba(3, 5)}, pair("a", "c"), nil},
		{row{ab(3, 5), ba(3, 5)}, pair("c", "b"), nil},
		{row{ab(3, 5)}, pair("b", "a"), nil},
		{row{ab(3, 5)}, name.Pair{}, nil},
		// Of one pair among others, whatever these have.
		{row{ab(3, 5), ab(7, 9), ac(4, 8), ba(0, forever)}, pair("a", "b"), spans(3, 5, 7, 9)},
		{row{ab(3, 5), ac(4, 8), ba(0, forever)}, pair("a", "c"), spans(4, 8)},
		{row{ab(3, 5), ac(4, 8), ba(0, forever)}, pair("b", "a"), spans(0, forever)},
		{row{ab(3, 5), ab(8, forever)}, pair("a", "b"), spans(3, 5, 8, forever)},
		// Entries that touch, that overlap, that are the same, and that have no time.
		{row{ab(3, 5), ab(5, 9)}, pair("a", "b"), spans(3, 9)},
		{row{ab(3, 5), ab(6, 9)}, pair("a", "b"), spans(3, 5, 6, 9)},
		{row{ab(3, 7), ab(5, 9)}, pair("a", "b"), spans(3, 9)},
		{row{ab(3, 9), ab(5, 6)}, pair("a", "b"), spans(3, 9)},
		{row{ab(3, 5), ab(3, 5)}, pair("a", "b"), spans(3, 5)},
		{row{ab(3, forever), ab(5, forever)}, pair("a", "b"), spans(3, forever)},
		{row{ab(3, 3)}, pair("a", "b"), nil},
		{row{ab(5, 3), ab(4, 4)}, pair("a", "b"), nil},
		{row{ab(1, 2), ab(5, 3), ab(7, 9)}, pair("a", "b"), spans(1, 2, 7, 9)},
		{row{ab(3, 5), ac(5, 7), ab(7, 9)}, pair("a", "b"), spans(3, 5, 7, 9)},
		// In a row that does not rise.
		{row{ab(7, 9), ba(1, 2), ab(3, 5)}, pair("a", "b"), spans(3, 5, 7, 9)},
		{row{ab(5, 9), ab(1, 2), ab(2, 5)}, pair("a", "b"), spans(1, 9)},
		// Numbers below 0, and those at both ends.
		{row{ab(-9, -3), ab(-1, 0)}, pair("a", "b"), spans(-9, -3, -1, 0)},
		{row{ab(least, 0), ab(1, greatest)}, pair("a", "b"), spans(least, 0, 1, greatest)},
		{row{ab(least, 0), ab(0, greatest)}, pair("a", "b"), spans(least, greatest)},
		{row{ab(greatest, least), ab(greatest, greatest)}, pair("a", "b"), nil},
		// Names that are not right, that are empty, and that are the same.
		{row{one("A", "\xff", 3, 5), one("A", "\xfe", 7, 9)}, pair("A", "\xff"), spans(3, 5)},
		{row{one("", "", 3, 5), one("", "a", 7, 9)}, name.Pair{}, spans(3, 5)},
		{row{one("a", "a", 3, 5), one("a", "b", 7, 9)}, pair("a", "a"), spans(3, 5)},
	} {
		if got := subs.Periods(x.l, x.p); !slices.Equal(got, x.want) {
			t.Errorf("P9.2: Periods: %v, %v: %v", x.l, x.p, got)
		}
	}
}

func TestWithout(t *testing.T) {
	cd := one("c", "d", 1, 2)
	l := row{ab(3, 5), ab(7, forever), ac(1, 2), ba(4, 6), cd}
	for _, x := range []struct {
		l    row
		u    string
		want row
	}{
		{nil, "a", nil},
		{row{}, "", nil},
		// One that watches, that is watched, both, and neither.
		{l, "c", row{ab(3, 5), ab(7, forever), ba(4, 6)}},
		{l, "d", row{ab(3, 5), ab(7, forever), ac(1, 2), ba(4, 6)}},
		{l, "a", row{cd}},
		{l, "b", row{ac(1, 2), cd}},
		{l, "e", l},
		{row{ab(3, 5)}, "a", nil},
		{row{ab(3, 5)}, "b", nil},
		{row{one("a", "a", 3, 5), cd}, "a", row{cd}},
		// Whole names alone, byte by byte.
		{row{one("ann", "bob", 3, 5)}, "an", row{one("ann", "bob", 3, 5)}},
		{row{one("ann", "bob", 3, 5)}, "annb", row{one("ann", "bob", 3, 5)}},
		{row{one("ann", "bob", 3, 5)}, "Ann", row{one("ann", "bob", 3, 5)}},
		{row{one("ann", "bob", 3, 5)}, "ann", nil},
		// An empty name, and such as are not right.
		{l, "", l},
		{row{one("", "b", 3, 5), one("a", "", 3, 5), ab(3, 5)}, "", row{ab(3, 5)}},
		{row{one("A", "b", 3, 5), one("b", "\xff", 3, 5)}, "A", row{one("b", "\xff", 3, 5)}},
		{row{one("A", "b", 3, 5), one("b", "\xff", 3, 5)}, "\xff", row{one("A", "b", 3, 5)}},
		// A row that does not rise keeps its order; entries without time, and the same ones, count like any other.
		{row{ba(9, 2), cd, ab(3, 3), one("e", "f", 4, 4), cd}, "a", row{cd, one("e", "f", 4, 4), cd}},
	} {
		if got := subs.Without(x.l, x.u); !slices.Equal(got, x.want) {
			t.Errorf("P9.2: Without: %v, %q: %v", x.l, x.u, got)
		}
	}
}

func TestAfter(t *testing.T) {
	l := row{ab(3, 5), ab(7, forever), ac(1, 2), ba(4, 6)}
	for _, x := range []struct {
		l    row
		t    int
		want row
	}{
		{nil, 0, nil},
		{row{}, least, nil},
		// At a To, below it, above it.
		{row{ab(3, 5)}, 5, nil},
		{row{ab(3, 5)}, 4, row{ab(3, 5)}},
		{row{ab(3, 5)}, 6, nil},
		{row{ab(3, 5)}, 3, row{ab(3, 5)}},
		{row{ab(3, 5)}, 0, row{ab(3, 5)}},
		{l, 1, l},
		{l, 2, row{ab(3, 5), ab(7, forever), ba(4, 6)}},
		{l, 4, row{ab(3, 5), ab(7, forever), ba(4, 6)}},
		{l, 5, row{ab(7, forever), ba(4, 6)}},
		{l, 6, row{ab(7, forever)}},
		{l, forever - 1, row{ab(7, forever)}},
		{l, forever, nil},
		{l, greatest, nil},
		{l, -1, l},
		{l, least, l},
		// A row that does not rise keeps its order; it is To alone that is asked, of entries without time, too.
		{row{ba(4, 6), ab(9, 7), ac(1, 2), ab(3, 5)}, 4, row{ba(4, 6), ab(9, 7), ab(3, 5)}},
		{row{ab(7, 7)}, 6, row{ab(7, 7)}},
		{row{ab(7, 7)}, 7, nil},
		{row{ab(3, 5), ab(3, 5)}, 4, row{ab(3, 5), ab(3, 5)}},
		// Numbers below 0, and those at both ends.
		{row{ab(-9, -3), ac(-9, 0)}, -3, row{ac(-9, 0)}},
		{row{ab(-9, -3), ac(-9, 0)}, -4, row{ab(-9, -3), ac(-9, 0)}},
		{row{ab(0, greatest), ac(0, greatest-1)}, greatest - 1, row{ab(0, greatest)}},
		{row{ab(0, greatest)}, greatest, nil},
		{row{ab(5, least), ac(5, least+1)}, least, row{ac(5, least+1)}},
		{row{one("", "\xff", 3, 5)}, 4, row{one("", "\xff", 3, 5)}},
	} {
		if got := subs.After(x.l, x.t); !slices.Equal(got, x.want) {
			t.Errorf("P9.2: After: %v, %d: %v", x.l, x.t, got)
		}
	}
}

func TestRising(t *testing.T) {
	long := strings.Repeat("a", api.MaxName)
	for _, x := range []struct {
		l    row
		want bool
	}{
		{nil, true},
		{row{}, true},
		{row{ab(3, 5)}, true},
		{row{ab(3, forever)}, true},
		{row{ab(3, 4)}, true},
		{row{ab(-5, -3)}, true},
		{row{ab(least, greatest)}, true},
		// Of one pair: apart, touching, overlapping, one in another, the same, falling.
		{row{ab(3, 5), ab(7, 9)}, true},
		{row{ab(3, 5), ab(5, 9)}, true},
		{row{ab(3, 5), ab(5, 6), ab(6, forever)}, true},
		{row{ab(3, 5), ab(4, 9)}, false},
		{row{ab(3, 9), ab(4, 5)}, false},
		{row{ab(3, 5), ab(3, 9)}, false},
		{row{ab(3, 5), ab(3, 5)}, false},
		{row{ab(7, 9), ab(3, 5)}, false},
		{row{ab(5, 9), ab(3, 5)}, false},
		{row{ab(3, forever), ab(4, forever)}, false},
		{row{ab(3, forever), ab(forever, greatest)}, true},
		{row{ab(3, 5), ab(7, 9), ab(8, 12)}, false},
		{row{ab(3, 5), ab(4, 7), ab(9, 12)}, false},
		// Of several pairs: by pair alone, whatever the times.
		{row{ab(3, 5), ac(1, 2)}, true},
		{row{ab(3, 5), ac(3, 5), ba(3, 5)}, true},
		{row{ab(3, 9), ac(4, 5)}, true},
		{row{ab(3, forever), ac(3, forever), ba(3, forever)}, true},
		{row{ac(3, 5), ab(7, 9)}, false},
		{row{ba(3, 5), ab(7, 9)}, false},
		{row{ab(3, 5), ba(3, 5), ac(7, 9)}, false},
		{row{ab(3, 5), ac(3, 5), ab(7, 9)}, false},
		{row{one("a", "z", 3, 5), one("aa", "a", 3, 5), one("b", "a", 3, 5)}, true},
		{row{one("a", "10", 3, 5), one("a", "9", 3, 5), one("a", "a", 3, 5)}, true},
		{row{one("a", "9", 3, 5), one("a", "10", 3, 5)}, false},
		// Without time: alone, ahead, in the middle, last.
		{row{ab(3, 3)}, false},
		{row{ab(5, 3)}, false},
		{row{ab(0, 0)}, false},
		{row{ab(forever, forever)}, false},
		{row{ab(greatest, least)}, false},
		{row{ab(3, 3), ab(5, 9)}, false},
		{row{ab(1, 2), ab(3, 3), ab(5, 9)}, false},
		{row{ab(1, 2), ab(3, 5), ab(5, 5)}, false},
		{row{ab(1, 2), ab(3, 5), ac(9, 5)}, false},
		// Names: both are asked, of each entry.
		{row{one("a", "a", 3, 5)}, true},
		{row{one(long, long, 3, 5)}, true},
		{row{one("", "b", 3, 5)}, false},
		{row{one("a", "", 3, 5)}, false},
		{row{one("", "", 3, 5)}, false},
		{row{one("A", "b", 3, 5)}, false},
		{row{one("a", "B", 3, 5)}, false},
		{row{one("a ", "b", 3, 5)}, false},
		{row{one("a", "\xff", 3, 5)}, false},
		{row{one("a", long+"a", 3, 5)}, false},
		{row{one(long+"a", "a", 3, 5)}, false},
		{row{ab(3, 5), one("a", "c!", 3, 5), ba(3, 5)}, false},
		{row{ab(3, 5), ac(3, 5), one("b", "", 3, 5)}, false},
		{row{one("A", "b", 3, 5), ab(3, 5)}, false},
		// Numbers below 0, and those at both ends.
		{row{ab(-9, -5), ab(-5, 0), ab(0, 1)}, true},
		{row{ab(-9, -5), ab(-6, 0)}, false},
		{row{ab(0, 1), ab(-1, 0)}, false},
		{row{ab(least, 0), ab(0, greatest)}, true},
		{row{ab(least, 1), ab(0, greatest)}, false},
		{row{ab(greatest-1, greatest), ab(least, 0)}, false},
	} {
		if got := subs.Rising(x.l); got != x.want {
			t.Errorf("P9.2: Rising: %v: %v", x.l, got)
		}
	}
}

func TestSame(t *testing.T) {
	for _, x := range []struct {
		a, b row
		want bool
	}{
		{nil, nil, true},
		{nil, row{}, true},
		{row{ab(3, 5)}, row{ab(3, 5)}, true},
		{row{ba(7, 9), ab(5, 3), ab(5, 3)}, row{ba(7, 9), ab(5, 3), ab(5, 3)}, true},
		{row{one("", "\xff", least, greatest)}, row{one("", "\xff", least, greatest)}, true},
		// Rows of different lengths.
		{nil, row{ab(3, 5)}, false},
		{nil, row{{}}, false},
		{nil, row{ab(3, 3)}, false},
		{row{ab(3, 5)}, row{ab(3, 5), ab(3, 5)}, false},
		{row{ab(3, 5)}, row{ab(3, 5), ab(7, 9)}, false},
		{row{ab(7, 9)}, row{ab(3, 5), ab(7, 9)}, false},
		// One thing alone.
		{row{ab(3, 5)}, row{one("b", "b", 3, 5)}, false},
		{row{ab(3, 5)}, row{one("a", "a", 3, 5)}, false},
		{row{ab(3, 5)}, row{ab(4, 5)}, false},
		{row{ab(3, 5)}, row{ab(3, 6)}, false},
		{row{ab(3, 5)}, row{ab(5, 3)}, false},
		{row{ab(3, 5)}, row{ba(3, 5)}, false},
		{row{ab(3, 5)}, row{one("A", "b", 3, 5)}, false},
		{row{one("ab", "c", 3, 5)}, row{one("a", "bc", 3, 5)}, false},
		{row{ab(3, 5), ab(7, 9), ac(1, 2)}, row{ab(3, 5), ab(7, 8), ac(1, 2)}, false},
		{row{ab(3, 5), ab(7, 9), ac(1, 2)}, row{ab(3, 5), ab(7, 9), ac(1, 3)}, false},
		{row{ab(3, 5), ab(7, 9), ac(1, 2)}, row{ac(3, 5), ab(7, 9), ac(1, 2)}, false},
		// The same entries in another order, and the same times in other entries.
		{row{ab(3, 5), ba(7, 9)}, row{ba(7, 9), ab(3, 5)}, false},
		{row{ab(3, 9)}, row{ab(3, 5), ab(5, 9)}, false},
		{row{ab(3, 3)}, row{ab(4, 4)}, false},
		{row{ab(3, least)}, row{ab(3, greatest)}, false},
	} {
		if got := subs.Same(x.a, x.b); got != x.want {
			t.Errorf("P9.2: Same: %v, %v: %v", x.a, x.b, got)
		}
		if got := subs.Same(x.b, x.a); got != x.want {
			t.Errorf("P9.2: Same: %v, %v: %v", x.b, x.a, got)
		}
	}
}

// check holds all that is told of a row, a pair and a time against the model.
func check(t *testing.T, l row, p name.Pair, at int) {
	t.Helper()
	got, err := subs.Grant(l, p, at)
	if want, wantErr := granted(l, p, at); err != wantErr || !slices.Equal(got, want) {
		t.Fatalf("P9.1: Grant: %v, %v, %d: %v, %d", l, p, at, got, err)
	}
	got, err = subs.Revoke(l, p, at)
	if want, wantErr := revoked(l, p, at); err != wantErr || !slices.Equal(got, want) {
		t.Fatalf("P9.1: Revoke: %v, %v, %d: %v, %d", l, p, at, got, err)
	}
	if subs.InForce(l, p) != inForce(l, p) {
		t.Fatalf("P9.1: InForce: %v, %v", l, p)
	}
	if got := subs.Periods(l, p); !slices.Equal(got, periods(l, p)) {
		t.Fatalf("P9.2: Periods: %v, %v: %v", l, p, got)
	}
	if got := subs.Without(l, p.U); !slices.Equal(got, without(l, p.U)) {
		t.Fatalf("P9.2: Without: %v, %q: %v", l, p.U, got)
	}
	if got := subs.After(l, at); !slices.Equal(got, after(l, at)) {
		t.Fatalf("P9.2: After: %v, %d: %v", l, at, got)
	}
	if subs.Rising(l) != rises(l) {
		t.Fatalf("P9.2: Rising: %v: %v", l, subs.Rising(l))
	}
	if more := append(slices.Clone(l), one(p.W, p.U, at, at)); !subs.Same(l, slices.Clone(l)) || subs.Same(l, more) {
		t.Fatalf("P9.2: Same: %v", l)
	}
}

// names are such as are right and such as are not; few of them, so that there are pairs alike.
func names() []string { return []string{"a", "b", "c", "", "B"} }

// times are those around 0, and those at both ends.
func times() []int {
	return []int{least, least + 1, -2, -1, 0, 1, 2, 3, 5, 9, forever - 1, forever, forever + 1, greatest - 1, greatest}
}

func pick[T any](r *rand.Rand, l []T) T { return l[r.IntN(len(l))] }

// someEntries are up to most, by chance; many of them are in force.
func someEntries(r *rand.Rand, most int, names []string, times []int) row {
	var l row
	for range r.IntN(most + 1) {
		e := one(pick(r, names), pick(r, names), pick(r, times), pick(r, times))
		if r.IntN(4) == 0 {
			e.To = forever
		}
		l = append(l, e)
	}
	return l
}

// risen is a row that rises, made of some that does not.
func risen(l row) row {
	l = slices.Clone(l)
	slices.SortStableFunc(l, func(e, o subs.Entry) int {
		if above(e, o) {
			return 1
		}
		if above(o, e) {
			return -1
		}
		return 0
	})
	var told row
	for _, e := range l {
		if rises(append(slices.Clone(told), e)) {
			told = append(told, e)
		}
	}
	return told
}

func TestEachShortRow(t *testing.T) {
	var all row
	for _, p := range []name.Pair{pair("a", "b"), pair("b", "a"), pair("a", "a")} {
		for _, from := range []int{0, 1, forever} {
			for _, to := range []int{0, 1, 2, forever} {
				all = append(all, one(p.W, p.U, from, to))
			}
		}
	}
	rows := []row{nil}
	for _, e := range all {
		rows = append(rows, row{e})
		for _, o := range all {
			rows = append(rows, row{e, o})
		}
	}
	for _, l := range rows {
		for _, p := range []name.Pair{pair("a", "b"), pair("b", "a"), pair("b", "b"), {}} {
			for _, at := range []int{-1, 0, 1, 2, forever, greatest} {
				check(t, l, p, at)
			}
		}
	}
}

func TestRowsByChance(t *testing.T) {
	r := rand.New(rand.NewPCG(9, 1))
	few := []int{0, 1, 2, 3, 4, 5, forever}
	for range 20000 {
		for _, numbers := range [][]int{few, times()} {
			l := someEntries(r, 8, names(), numbers)
			p, at := pair(pick(r, names()), pick(r, names())), pick(r, numbers)
			if len(l) > 0 && r.IntN(2) == 0 {
				p = pick(r, l).Pair
			}
			check(t, l, p, at)
			check(t, risen(l), p, at)
		}
	}
}

// latest is the greatest time of the entries but Forever, and -1, if they have none.
func latest(l row) int {
	last := -1
	for _, e := range l {
		for _, at := range []int{e.From, e.To} {
			if at != forever {
				last = max(last, at)
			}
		}
	}
	return last
}

// checkBehind grants, or revokes, the right of one pair at a time that is above all, and asks what follows.
func checkBehind(t *testing.T, l row, p name.Pair, at int) {
	t.Helper()
	call, word := subs.Grant, "Grant"
	if inForce(l, p) {
		call, word = subs.Revoke, "Revoke"
	}
	got, err := call(l, p, at)
	if err != api.OK || !subs.Rising(got) {
		t.Fatalf("P9.3: %v rises, but %s of %v at %d makes %v, %d", l, word, p, at, got, err)
	}
	want := span.Join(periods(l, p), spans(at, forever))
	if word == "Revoke" {
		want = span.Less(periods(l, p), spans(at, forever))
	}
	if told := subs.Periods(got, p); !span.Same(told, want) {
		t.Fatalf("P9.3: %s of %v at %d, of %v: its periods are %v", word, p, at, l, told)
	}
	for _, e := range l {
		if !of(e, p) && !slices.Equal(subs.Periods(got, e.Pair), periods(l, e.Pair)) {
			t.Fatalf("P9.3: %s of %v at %d, of %v: the periods of %v are %v", word, p, at, l, e.Pair, subs.Periods(got, e.Pair))
		}
	}
}

func TestRisingRowsGoOn(t *testing.T) {
	r := rand.New(rand.NewPCG(9, 2))
	users := []string{"a", "b", "c", "0", "aa", "z9"}
	low := []int{0, 1, 2, 3, 4, 5, 6, 7, 8, 9, 12, 20, forever}
	for range 20000 {
		l := risen(someEntries(r, 12, users, low))
		p := pair(pick(r, users), pick(r, users))
		checkBehind(t, l, p, latest(l)+1)
		checkBehind(t, l, p, latest(l)+1+r.IntN(9))
		checkBehind(t, l, p, forever-1)
	}
}

// TestRowsThatAreBuilt grants and revokes by chance, in time, from nothing on, and keeps beside it what each pair's periods are.
func TestRowsThatAreBuilt(t *testing.T) {
	r := rand.New(rand.NewPCG(9, 3))
	users := []string{"a", "b", "c"}
	for range 300 {
		var l row
		since, over := map[name.Pair]int{}, map[name.Pair][]span.Span{}
		at := 0
		for range 40 {
			at += r.IntN(3)
			p := pair(pick(r, users), pick(r, users))
			from, on := since[p]
			if !on {
				since[p] = at
				l = mustTell(t, subs.Grant, l, p, at)
			} else {
				delete(since, p)
				over[p] = append(over[p], span.Span{From: from, To: at})
				l = mustTell(t, subs.Revoke, l, p, at)
			}
			if subs.InForce(l, p) == on {
				t.Fatalf("P9.1: InForce: %v, %v", l, p)
			}
			if got := subs.Periods(l, p); !slices.Equal(got, span.Norm(soFar(since, over, p))) {
				t.Fatalf("P9.3: the periods of %v are %v, not %v", p, got, soFar(since, over, p))
			}
			if !subs.Rising(l) {
				t.Fatalf("P9.3: what was granted and revoked in time does not rise: %v", l)
			}
		}
	}
}

// soFar is the spans of a pair that are over, and the one that is not.
func soFar(since map[name.Pair]int, over map[name.Pair][]span.Span, p name.Pair) []span.Span {
	l := slices.Clone(over[p])
	if from, on := since[p]; on {
		l = append(l, span.Span{From: from, To: forever})
	}
	return l
}

func mustTell(t *testing.T, call func(row, name.Pair, int) (row, api.Errno), l row, p name.Pair, at int) row {
	t.Helper()
	told, err := call(l, p, at)
	if err != api.OK {
		t.Fatalf("P9.1: %v, %v, %d: %d", l, p, at, err)
	}
	return told
}

func TestGrantedAndRevoked(t *testing.T) {
	p := pair("a", "b")
	for _, x := range []struct {
		from, to int
		want     []span.Span
	}{
		{3, 5, spans(3, 5)},
		{0, 1, spans(0, 1)},
		{3, 3, nil},
		{5, 3, nil},
		{-5, -3, spans(-5, -3)},
		{0, forever - 1, spans(0, forever-1)},
		{0, forever, spans(0, forever)},
		{least, least, nil},
		{least, greatest, spans(least, greatest)},
		{forever, forever, nil},
	} {
		l := mustTell(t, subs.Grant, row{ac(1, 2)}, p, x.from)
		l = mustTell(t, subs.Revoke, l, p, x.to)
		if got := subs.Periods(l, p); !slices.Equal(got, x.want) {
			t.Errorf("P9.3: granted at %d and revoked at %d: %v", x.from, x.to, got)
		}
	}
}

func TestExample(t *testing.T) {
	p := pair("a", "b")
	l := mustTell(t, subs.Grant, nil, p, 3)
	l = mustTell(t, subs.Revoke, l, p, 5)
	l = mustTell(t, subs.Grant, l, p, 9)
	if got := subs.Periods(l, p); !slices.Equal(got, spans(3, 5, 9, forever)) {
		t.Errorf("P9.2: the chapter's example: %v", got)
	}
}

// TestManyEntries has rows that are too long for anyone who holds each entry against each other one.
func TestManyEntries(t *testing.T) {
	const many = 1 << 18
	var l row
	for k := range many {
		l = append(l, ac(4*k, 4*k+3))
	}
	fallen := slices.Clone(l)
	slices.Reverse(fallen)
	if !subs.Rising(l) || subs.Rising(fallen) || subs.Rising(append(slices.Clone(l), l[many-1])) {
		t.Error("P9.2: Rising of many entries")
	}
	if got := subs.Periods(fallen, pair("a", "c")); len(got) != many || got[0] != (span.Span{From: 0, To: 3}) {
		t.Errorf("P9.2: Periods of many entries: %d", len(got))
	}
	if len(subs.Without(l, "c")) != 0 || len(subs.Without(l, "b")) != many || len(subs.After(fallen, 4*many-5)) != 1 {
		t.Error("P9.2: Without, After of many entries")
	}
	p := pair("a", "c")
	longer := mustTell(t, subs.Grant, l, p, 4*many)
	if len(longer) != many+1 || longer[many] != ac(4*many, forever) || !subs.InForce(longer, p) {
		t.Error("P9.1: Grant behind many entries")
	}
	if ended := mustTell(t, subs.Revoke, longer, p, 4*many+1); len(ended) != many+1 || ended[many] != ac(4*many, 4*many+1) {
		t.Error("P9.1: Revoke behind many entries")
	}
	if ahead := mustTell(t, subs.Grant, l, pair("a", "b"), 9); len(ahead) != many+1 || ahead[0] != ab(9, forever) {
		t.Error("P9.1: Grant ahead of many entries")
	}
}

// calls are all those that tell a row of entries.
func calls() map[string]func(l row) row {
	entries := func(l row, _ api.Errno) row { return l }
	return map[string]func(l row) row{
		"Grant ahead":   func(l row) row { return entries(subs.Grant(l, pair("a", "a"), 4)) },
		"Grant between": func(l row) row { return entries(subs.Grant(l, pair("a", "d"), 4)) },
		"Grant behind":  func(l row) row { return entries(subs.Grant(l, pair("z", "z"), 4)) },
		"Grant again":   func(l row) row { return entries(subs.Grant(l, pair("a", "b"), 6)) },
		"Revoke":        func(l row) row { return entries(subs.Revoke(l, pair("a", "b"), 90)) },
		"Revoke anew":   func(l row) row { return entries(subs.Revoke(l, pair("a", "c"), forever)) },
		"Revoke whole":  func(l row) row { return entries(subs.Revoke(l, pair("b", "a"), least)) },
		"Without one":   func(l row) row { return subs.Without(l, "c") },
		"Without none":  func(l row) row { return subs.Without(l, "x") },
		"After some":    func(l row) row { return subs.After(l, 5) },
		"After all":     func(l row) row { return subs.After(l, least) },
	}
}

// given are rows of all kinds: those to which a call has nothing to do are the ones that a lazy answer would hand back.
func given() []row {
	return []row{
		nil,
		{},
		{ab(3, 5)},
		{ab(3, forever)},
		{ac(3, forever)},
		{ba(3, forever)},
		{ab(3, 5), ab(7, forever), ac(1, forever), ba(4, forever)},
		{ab(3, 5), ac(6, 9), ba(4, 6)},
		{ba(4, forever), ac(1, 2), ab(9, 7), ab(7, forever), ab(3, forever)},
	}
}

// asked makes the calls that tell no row of entries; what is told of periods is written into.
func asked(l row) {
	for _, p := range []name.Pair{pair("a", "b"), pair("b", "a"), pair("z", "z")} {
		subs.InForce(l, p)
		told := subs.Periods(l, p)
		for i := range told {
			told[i] = span.Span{From: -7, To: 77}
		}
		_ = append(told, spans(1, 2, 3, 4)...)
	}
	subs.Rising(l)
	subs.Same(l, l)
}

// TestGivenEntries has rows with room behind them, in which others stand, and rows without.
func TestGivenEntries(t *testing.T) {
	for what, call := range calls() {
		for _, x := range given() {
			for _, behind := range []row{nil, {ba(70, 80), ab(60, forever), one("", "", 5, 4), ac(40, forever)}} {
				l := append(slices.Clone(x), behind...)
				kept := slices.Clone(l)
				told := call(l[:len(x)])
				for i := range told {
					told[i] = one("w", "w", -7, 77)
				}
				_ = append(told, ab(0, 100), ac(200, 300))
				asked(l[:len(x)])
				if !slices.Equal(l, kept) {
					t.Errorf("R5: %s: %v became %v", what, kept, l)
				}
			}
		}
	}
}

func TestToldIsTheCallersOwn(t *testing.T) {
	for what, call := range calls() {
		for _, x := range given() {
			l := slices.Clone(x)
			first, second := call(l), call(l)
			kept := slices.Clone(second)
			for i := range first {
				first[i] = one("w", "w", -7, 77)
			}
			if !slices.Equal(l, x) || !slices.Equal(second, kept) {
				t.Errorf("R6: %s: written into what was told of %v: %v, %v", what, x, l, second)
			}
			for i := range l {
				l[i] = one("v", "v", -8, 88)
			}
			if !slices.Equal(second, kept) {
				t.Errorf("R6: %s: written into what was given, %v: %v", what, x, second)
			}
		}
	}
}

func TestToldPeriodsAreTheCallersOwn(t *testing.T) {
	for _, x := range given() {
		l := slices.Clone(x)
		p := pair("a", "b")
		first, second := subs.Periods(l, p), subs.Periods(l, p)
		kept := slices.Clone(second)
		for i := range first {
			first[i] = span.Span{From: -7, To: 77}
		}
		for i := range l {
			l[i] = one("v", "v", -8, 88)
		}
		if !slices.Equal(second, kept) {
			t.Errorf("R6: Periods of %v: %v became %v", x, kept, second)
		}
	}
}

func TestToldAgain(t *testing.T) {
	r := rand.New(rand.NewPCG(9, 7))
	for range 500 {
		l := someEntries(r, 9, []string{"a", "b", "c"}, times())
		// With room behind them, and without: no answer hangs on it.
		roomy := append(slices.Clone(l), ab(1, forever), ba(2, forever))[:len(l)]
		for what, call := range calls() {
			if first, again := fmt.Sprint(call(l)), fmt.Sprint(call(roomy)); first != again {
				t.Fatalf("R7: %s: %v: %s, and then %s", what, l, first, again)
			}
		}
	}
}
