package sess_test

import (
	"fmt"
	"math"
	"math/rand/v2"
	"slices"
	"strings"
	"testing"

	"afterglow/api"
	"afterglow/hist"
	"afterglow/sess"
	"afterglow/span"
)

const (
	least    = math.MinInt
	greatest = math.MaxInt
	forever  = api.Forever
)

// row and stays are lists; the shorter words keep the tables below to a line a case.
type (
	row   = []sess.Entry
	stays = []hist.Stay
)

func one(n int, user string, status, from int) sess.Entry {
	return sess.Entry{N: n, User: user, Status: status, From: from}
}

// ann and bob are entries of two users, each with a status of its own, from 3 on.
func ann(n int) sess.Entry { return one(n, "ann", 1, 3) }
func bob(n int) sess.Entry { return one(n, "bob", 2, 3) }

func stay(from, to, n, status int) hist.Stay {
	return hist.Stay{Span: span.Span{From: from, To: to}, N: n, Status: status}
}

// filled is so many entries, of ann, with every other number from 2 on.
func filled(count int) row {
	var l row
	for k := range count {
		l = append(l, ann(2*k+2))
	}
	return l
}

// with is l, and behind it some more, in memory of its own.
func with(l row, more ...sess.Entry) row { return append(slices.Clone(l), more...) }

// The model: the chapter's words written a second time, more plainly, and by nothing but the fields.

func opened(l row, e sess.Entry) (row, api.Errno) {
	count := 0
	for _, o := range l {
		if o.N == e.N {
			return nil, api.ErrSessOpen
		}
		count++
	}
	if count > 15 {
		return nil, api.ErrSessMany
	}
	var told row
	put := false
	for _, o := range l {
		if !put && o.N > e.N {
			told, put = append(told, e), true
		}
		told = append(told, o)
	}
	if !put {
		told = append(told, e)
	}
	return told, api.OK
}

// those is the entries that have n, in their order.
func those(l row, n int) row {
	return slices.DeleteFunc(slices.Clone(l), func(e sess.Entry) bool { return e.N != n })
}

func found(l row, n int, user string) (sess.Entry, api.Errno) {
	have := those(l, n)
	if len(have) == 0 {
		return sess.Entry{}, api.ErrSessNone
	}
	if have[0].User != user {
		return sess.Entry{}, api.ErrSessUser
	}
	return have[0], api.OK
}

// turned is l with, in the place of the first entry that has n, those that are given; and the stay that it was.
func turned(l row, n int, user string, when int, by ...sess.Entry) (row, hist.Stay, api.Errno) {
	e, err := found(l, n, user)
	if err != api.OK {
		return nil, hist.Stay{}, err
	}
	var told row
	done := false
	for _, o := range l {
		if o.N == n && !done {
			told, done = append(told, by...), true
		} else {
			told = append(told, o)
		}
	}
	return told, stay(e.From, when, n, e.Status), api.OK
}

func changed(l row, n int, user string, status, when int) (row, hist.Stay, api.Errno) {
	return turned(l, n, user, when, one(n, user, status, when))
}

func closed(l row, n int, user string, when int) (row, hist.Stay, api.Errno) {
	return turned(l, n, user, when)
}

// stayed puts each stay ahead of the first one that is above it, number by number.
func stayed(l row, user string, when int) stays {
	var told stays
	for _, e := range l {
		if e.User != user || e.From >= when {
			continue
		}
		place := 0
		for place < len(told) && slices.Compare(numbers(told[place]), []int{e.From, when, e.N, e.Status}) <= 0 {
			place++
		}
		told = slices.Insert(told, place, stay(e.From, when, e.N, e.Status))
	}
	return told
}

func numbers(s hist.Stay) []int { return []int{s.From, s.To, s.N, s.Status} }

func users(l row) []string {
	var told []string
	for _, e := range l {
		if !slices.Contains(told, e.User) {
			told = append(told, e.User)
		}
	}
	slices.Sort(told)
	return told
}

func without(l row, u string) row {
	return slices.DeleteFunc(slices.Clone(l), func(e sess.Entry) bool { return e.User == u })
}

func right(s string) bool {
	return len(s) >= 1 && len(s) <= 12 && strings.Trim(s, "abcdefghijklmnopqrstuvwxyz0123456789") == ""
}

// rises holds each entry against all that are ahead of it.
func rises(l row) bool {
	for i, e := range l {
		if !right(e.User) || e.N < 1 || e.N > 999 || e.Status < 1 || e.Status > 4 || e.From < 0 || e.From >= 1<<40 {
			return false
		}
		for _, ahead := range l[:i] {
			if ahead.N >= e.N {
				return false
			}
		}
	}
	return len(l) < 17
}

func TestOpen(t *testing.T) {
	three := row{ann(2), bob(5), ann(9)}
	full := filled(api.MaxOpen)
	for _, x := range []struct {
		l    row
		e    sess.Entry
		want row
		err  api.Errno
	}{
		{nil, ann(2), row{ann(2)}, api.OK},
		{row{}, bob(5), row{bob(5)}, api.OK},
		{nil, sess.Entry{}, row{{}}, api.OK},
		// There already: at the first place, in the middle, last; by the same user and by another one.
		{three, ann(2), nil, api.ErrSessOpen},
		{three, bob(2), nil, api.ErrSessOpen},
		{three, bob(5), nil, api.ErrSessOpen},
		{three, ann(5), nil, api.ErrSessOpen},
		{three, ann(9), nil, api.ErrSessOpen},
		{three, bob(9), nil, api.ErrSessOpen},
		{row{ann(2)}, ann(2), nil, api.ErrSessOpen},
		{row{ann(2)}, one(2, "ann", 4, 7), nil, api.ErrSessOpen},
		{row{ann(2)}, one(2, "", 0, 0), nil, api.ErrSessOpen},
		{row{{}}, sess.Entry{}, nil, api.ErrSessOpen},
		// Below all, between, above all; its user, status and time do not count.
		{three, bob(1), row{bob(1), ann(2), bob(5), ann(9)}, api.OK},
		{three, bob(3), row{ann(2), bob(3), bob(5), ann(9)}, api.OK},
		{three, bob(4), row{ann(2), bob(4), bob(5), ann(9)}, api.OK},
		{three, ann(8), row{ann(2), bob(5), ann(8), ann(9)}, api.OK},
		{three, ann(10), row{ann(2), bob(5), ann(9), ann(10)}, api.OK},
		{row{ann(5)}, one(2, "zoe", 4, 9), row{one(2, "zoe", 4, 9), ann(5)}, api.OK},
		{row{ann(5)}, one(7, "a", 0, -9), row{ann(5), one(7, "a", 0, -9)}, api.OK},
		{row{ann(5)}, one(10, "ann", 1, 3), row{ann(5), ann(10)}, api.OK},
		// In a row that does not rise it is the first one that is greater that tells the place.
		{row{ann(9), ann(2)}, bob(5), row{bob(5), ann(9), ann(2)}, api.OK},
		{row{ann(2), ann(9), bob(3), ann(8)}, bob(5), row{ann(2), bob(5), ann(9), bob(3), ann(8)}, api.OK},
		{row{ann(9), bob(5), ann(2)}, bob(10), row{ann(9), bob(5), ann(2), bob(10)}, api.OK},
		{row{ann(9), bob(5), ann(2)}, bob(1), row{bob(1), ann(9), bob(5), ann(2)}, api.OK},
		{row{ann(9), bob(5), ann(2)}, ann(2), nil, api.ErrSessOpen},
		{row{ann(9), bob(5), ann(2)}, ann(5), nil, api.ErrSessOpen},
		{row{ann(2), bob(2), ann(2)}, ann(2), nil, api.ErrSessOpen},
		{row{ann(7), ann(7)}, ann(5), row{ann(5), ann(7), ann(7)}, api.OK},
		{row{ann(2), ann(2)}, ann(5), row{ann(2), ann(2), ann(5)}, api.OK},
		// Numbers that Rising refuses, and those at both ends: they are put in their places like any other.
		{three, ann(0), with(row{ann(0)}, three...), api.OK},
		{three, ann(-1), with(row{ann(-1)}, three...), api.OK},
		{row{ann(-5), ann(0)}, ann(-1), row{ann(-5), ann(-1), ann(0)}, api.OK},
		{three, ann(least), with(row{ann(least)}, three...), api.OK},
		{row{ann(least), ann(5)}, ann(least), nil, api.ErrSessOpen},
		{row{ann(least), ann(5)}, ann(least + 1), row{ann(least), ann(least + 1), ann(5)}, api.OK},
		{three, ann(api.MaxSess), with(three, ann(api.MaxSess)), api.OK},
		{three, ann(api.MaxSess + 1), with(three, ann(api.MaxSess+1)), api.OK},
		{three, ann(greatest), with(three, ann(greatest)), api.OK},
		{row{ann(5), ann(greatest)}, ann(greatest), nil, api.ErrSessOpen},
		{row{ann(5), ann(greatest)}, ann(greatest - 1), row{ann(5), ann(greatest - 1), ann(greatest)}, api.OK},
		{row{ann(greatest)}, ann(least), row{ann(least), ann(greatest)}, api.OK},
		{row{ann(least)}, ann(greatest), row{ann(least), ann(greatest)}, api.OK},
		// With MaxOpen entries, one less, and one more; one that is there is told first.
		{full[:api.MaxOpen-1], bob(1), with(row{bob(1)}, full[:api.MaxOpen-1]...), api.OK},
		{full[:api.MaxOpen-1], bob(99), with(full[:api.MaxOpen-1], bob(99)), api.OK},
		{full[:api.MaxOpen-1], bob(2), nil, api.ErrSessOpen},
		{full, bob(1), nil, api.ErrSessMany},
		{full, bob(5), nil, api.ErrSessMany},
		{full, bob(99), nil, api.ErrSessMany},
		{full, ann(2), nil, api.ErrSessOpen},
		{full, bob(10), nil, api.ErrSessOpen},
		{full, ann(2 * api.MaxOpen), nil, api.ErrSessOpen},
		{filled(api.MaxOpen + 1), bob(1), nil, api.ErrSessMany},
		{filled(api.MaxOpen + 1), ann(2*api.MaxOpen + 2), nil, api.ErrSessOpen},
		{make(row, api.MaxOpen), ann(1), nil, api.ErrSessMany},
		{make(row, api.MaxOpen), ann(0), nil, api.ErrSessOpen},
		{make(row, api.MaxOpen-1), ann(1), with(make(row, api.MaxOpen-1), ann(1)), api.OK},
		// Users whose names are not right, and times and statuses at both ends: they are not asked.
		{row{ann(5)}, one(2, "A!", least, greatest), row{one(2, "A!", least, greatest), ann(5)}, api.OK},
		{row{ann(5)}, one(7, "\xff", greatest, least), row{ann(5), one(7, "\xff", greatest, least)}, api.OK},
		{row{ann(5)}, one(7, "", 5, forever), row{ann(5), one(7, "", 5, forever)}, api.OK},
	} {
		got, err := sess.Open(x.l, x.e)
		if err != x.err || !slices.Equal(got, x.want) {
			t.Errorf("P10.1: Open: %v, %v: %v, %d", x.l, x.e, got, err)
		}
	}
}

// asking is a row and what Find, Change and Close are asked for in it, the place of that entry, and their error.
type asking struct {
	l     row
	n     int
	user  string
	place int
	err   api.Errno
}

func askings() []asking {
	three := row{ann(2), bob(5), ann(9)}
	full := filled(api.MaxOpen + 1)
	odd := row{one(0, "", 0, 0), one(-1, "A!", -2, -3), one(least, "\xff", least, least), one(greatest, strings.Repeat("a", 13), greatest, greatest)}
	return []asking{
		{nil, 2, "ann", 0, api.ErrSessNone},
		{row{}, 0, "", 0, api.ErrSessNone},
		// At the first place, in the middle, last.
		{three, 2, "ann", 0, api.OK},
		{three, 5, "bob", 1, api.OK},
		{three, 9, "ann", 2, api.OK},
		{row{bob(5)}, 5, "bob", 0, api.OK},
		{full, 2*api.MaxOpen + 2, "ann", api.MaxOpen, api.OK},
		// Nowhere: below all, between, above all, and other numbers of the same user.
		{three, 1, "ann", 0, api.ErrSessNone},
		{three, 4, "ann", 0, api.ErrSessNone},
		{three, 10, "ann", 0, api.ErrSessNone},
		{three, 0, "ann", 0, api.ErrSessNone},
		{three, -2, "ann", 0, api.ErrSessNone},
		{three, 0, "", 0, api.ErrSessNone},
		{three, least, "ann", 0, api.ErrSessNone},
		{three, greatest, "ann", 0, api.ErrSessNone},
		{three, 3, "eve", 0, api.ErrSessNone},
		// Another user's: at the first place, in the middle, last, and of a user that has others.
		{three, 2, "bob", 0, api.ErrSessUser},
		{three, 5, "ann", 0, api.ErrSessUser},
		{three, 9, "bob", 0, api.ErrSessUser},
		{three, 9, "eve", 0, api.ErrSessUser},
		{three, 5, "", 0, api.ErrSessUser},
		{row{bob(5)}, 5, "ann", 0, api.ErrSessUser},
		// Whole names alone, byte by byte.
		{three, 2, "an", 0, api.ErrSessUser},
		{three, 2, "anna", 0, api.ErrSessUser},
		{three, 2, "Ann", 0, api.ErrSessUser},
		// A number that two have: the first one alone, whoever has the second one.
		{row{bob(5), ann(5)}, 5, "ann", 0, api.ErrSessUser},
		{row{bob(5), ann(5)}, 5, "bob", 0, api.OK},
		{row{ann(2), bob(5), ann(7), ann(5), bob(5)}, 5, "ann", 0, api.ErrSessUser},
		{row{ann(2), bob(5), ann(7), ann(5), bob(5)}, 5, "bob", 1, api.OK},
		{row{ann(2), one(5, "bob", 1, 9), one(5, "bob", 2, 3)}, 5, "bob", 1, api.OK},
		{row{ann(5), ann(5)}, 5, "ann", 0, api.OK},
		{row{ann(5), ann(5)}, 5, "bob", 0, api.ErrSessUser},
		// In a row that does not rise.
		{row{ann(9), bob(5), ann(2)}, 2, "ann", 2, api.OK},
		{row{ann(9), bob(5), ann(2)}, 9, "ann", 0, api.OK},
		{row{ann(9), bob(5), ann(2)}, 2, "bob", 0, api.ErrSessUser},
		{row{ann(9), bob(5), ann(2)}, 7, "bob", 0, api.ErrSessNone},
		// Numbers and names that Rising refuses.
		{odd, 0, "", 0, api.OK},
		{odd, -1, "A!", 1, api.OK},
		{odd, least, "\xff", 2, api.OK},
		{odd, greatest, "aaaaaaaaaaaaa", 3, api.OK},
		{odd, 0, "A!", 0, api.ErrSessUser},
		{odd, least, "\xfe", 0, api.ErrSessUser},
		{odd, greatest, "aaaaaaaaaaaa", 0, api.ErrSessUser},
		{odd, 1, "", 0, api.ErrSessNone},
		{odd, least + 1, "\xff", 0, api.ErrSessNone},
		{odd, greatest - 1, "aaaaaaaaaaaaa", 0, api.ErrSessNone},
	}
}

func TestFind(t *testing.T) {
	for _, x := range askings() {
		var want sess.Entry
		if x.err == api.OK {
			want = x.l[x.place]
		}
		got, err := sess.Find(x.l, x.n, x.user)
		if err != x.err || got != want {
			t.Errorf("P10.1: Find: %v, %d, %q: %v, %d", x.l, x.n, x.user, got, err)
		}
	}
}

// whens are the times of a change or a close: that of the opening, below it, above it, and at both ends.
func whens(from int) []int {
	l := []int{least, -1, 0, 1, forever - 1, forever, forever + 1, greatest, from}
	if from > least {
		l = append(l, from-1)
	}
	if from < greatest {
		l = append(l, from+1)
	}
	return l
}

func TestChangeWhatIsFound(t *testing.T) {
	for _, x := range askings() {
		var e sess.Entry
		if x.err == api.OK {
			e = x.l[x.place]
		}
		for _, when := range whens(e.From) {
			for _, status := range []int{least, -1, 0, 1, 2, 3, 4, 5, greatest, e.Status} {
				var want row
				var was hist.Stay
				if x.err == api.OK {
					want, was = slices.Clone(x.l), stay(e.From, when, e.N, e.Status)
					want[x.place] = one(e.N, e.User, status, when)
				}
				got, s, err := sess.Change(x.l, x.n, x.user, status, when)
				if err != x.err || s != was || !slices.Equal(got, want) {
					t.Errorf("P10.2: Change: %v, %d, %q, %d, %d: %v, %v, %d", x.l, x.n, x.user, status, when, got, s, err)
				}
			}
		}
	}
}

func TestCloseWhatIsFound(t *testing.T) {
	for _, x := range askings() {
		var e sess.Entry
		if x.err == api.OK {
			e = x.l[x.place]
		}
		for _, when := range whens(e.From) {
			var want row
			var was hist.Stay
			if x.err == api.OK {
				want, was = with(x.l[:x.place], x.l[x.place+1:]...), stay(e.From, when, e.N, e.Status)
			}
			got, s, err := sess.Close(x.l, x.n, x.user, when)
			if err != x.err || s != was || !slices.Equal(got, want) {
				t.Errorf("P10.2: Close: %v, %d, %q, %d: %v, %v, %d", x.l, x.n, x.user, when, got, s, err)
			}
		}
	}
}

func TestChange(t *testing.T) {
	three := row{ann(2), bob(5), ann(9)}
	for _, x := range []struct {
		n            int
		user         string
		status, when int
		want         row
		was          hist.Stay
		err          api.Errno
	}{
		{2, "ann", 4, 7, row{one(2, "ann", 4, 7), bob(5), ann(9)}, stay(3, 7, 2, 1), api.OK},
		{5, "bob", 4, 7, row{ann(2), one(5, "bob", 4, 7), ann(9)}, stay(3, 7, 5, 2), api.OK},
		{9, "ann", 4, 7, row{ann(2), bob(5), one(9, "ann", 4, 7)}, stay(3, 7, 9, 1), api.OK},
		// To the same status; at the time of the opening, below it, and above it.
		{5, "bob", 2, 7, row{ann(2), one(5, "bob", 2, 7), ann(9)}, stay(3, 7, 5, 2), api.OK},
		{5, "bob", 2, 3, three, stay(3, 3, 5, 2), api.OK},
		{5, "bob", 4, 3, row{ann(2), one(5, "bob", 4, 3), ann(9)}, stay(3, 3, 5, 2), api.OK},
		{5, "bob", 4, 2, row{ann(2), one(5, "bob", 4, 2), ann(9)}, stay(3, 2, 5, 2), api.OK},
		{5, "bob", 4, 4, row{ann(2), one(5, "bob", 4, 4), ann(9)}, stay(3, 4, 5, 2), api.OK},
		{5, "bob", 0, -1, row{ann(2), one(5, "bob", 0, -1), ann(9)}, stay(3, -1, 5, 2), api.OK},
		{5, "bob", 5, forever, row{ann(2), one(5, "bob", 5, forever), ann(9)}, stay(3, forever, 5, 2), api.OK},
		{4, "bob", 4, 7, nil, hist.Stay{}, api.ErrSessNone},
		{5, "ann", 4, 7, nil, hist.Stay{}, api.ErrSessUser},
		{2, "bob", 4, 7, nil, hist.Stay{}, api.ErrSessUser},
	} {
		got, s, err := sess.Change(three, x.n, x.user, x.status, x.when)
		if err != x.err || s != x.was || !slices.Equal(got, x.want) {
			t.Errorf("P10.2: Change: %d, %q, %d, %d: %v, %v, %d", x.n, x.user, x.status, x.when, got, s, err)
		}
	}
}

func TestClose(t *testing.T) {
	three := row{ann(2), bob(5), ann(9)}
	for _, x := range []struct {
		n    int
		user string
		when int
		want row
		was  hist.Stay
		err  api.Errno
	}{
		{2, "ann", 7, row{bob(5), ann(9)}, stay(3, 7, 2, 1), api.OK},
		{5, "bob", 7, row{ann(2), ann(9)}, stay(3, 7, 5, 2), api.OK},
		{9, "ann", 7, row{ann(2), bob(5)}, stay(3, 7, 9, 1), api.OK},
		// At the time of the opening, and below it, the stay has no time; above it, it has.
		{5, "bob", 3, row{ann(2), ann(9)}, stay(3, 3, 5, 2), api.OK},
		{5, "bob", 2, row{ann(2), ann(9)}, stay(3, 2, 5, 2), api.OK},
		{5, "bob", 4, row{ann(2), ann(9)}, stay(3, 4, 5, 2), api.OK},
		{5, "bob", -1, row{ann(2), ann(9)}, stay(3, -1, 5, 2), api.OK},
		{5, "bob", forever, row{ann(2), ann(9)}, stay(3, forever, 5, 2), api.OK},
		{4, "bob", 7, nil, hist.Stay{}, api.ErrSessNone},
		{5, "ann", 7, nil, hist.Stay{}, api.ErrSessUser},
		{2, "bob", 7, nil, hist.Stay{}, api.ErrSessUser},
	} {
		got, s, err := sess.Close(three, x.n, x.user, x.when)
		if err != x.err || s != x.was || !slices.Equal(got, x.want) {
			t.Errorf("P10.2: Close: %d, %q, %d: %v, %v, %d", x.n, x.user, x.when, got, s, err)
		}
	}
	for _, user := range []string{"ann", "bob"} {
		got, s, err := sess.Close(row{ann(2)}, 2, user, 7)
		if (err == api.OK) != (user == "ann") || len(got) != 0 || err != api.OK && s != (hist.Stay{}) {
			t.Errorf("P10.2: Close of the only one, by %s: %v, %v, %d", user, got, s, err)
		}
	}
}

func TestStays(t *testing.T) {
	for _, x := range []struct {
		l    row
		user string
		when int
		want stays
	}{
		{nil, "ann", 7, nil},
		{row{}, "", 7, nil},
		// A user without entries.
		{row{ann(2)}, "bob", 7, nil},
		{row{ann(2)}, "", 7, nil},
		{row{ann(2)}, "an", 7, nil},
		// Up to a time at, below and above a From.
		{row{ann(2)}, "ann", 3, nil},
		{row{ann(2)}, "ann", 2, nil},
		{row{ann(2)}, "ann", 4, stays{stay(3, 4, 2, 1)}},
		{row{ann(2)}, "ann", 9, stays{stay(3, 9, 2, 1)}},
		{row{ann(2)}, "ann", forever, stays{stay(3, forever, 2, 1)}},
		{row{ann(2)}, "ann", greatest, stays{stay(3, greatest, 2, 1)}},
		{row{ann(2)}, "ann", -1, nil},
		{row{ann(2)}, "ann", least, nil},
		// Several: the user's alone, and those alone that have some time.
		{row{ann(2), bob(5), ann(9)}, "ann", 7, stays{stay(3, 7, 2, 1), stay(3, 7, 9, 1)}},
		{row{ann(2), bob(5), ann(9)}, "bob", 7, stays{stay(3, 7, 5, 2)}},
		{row{one(2, "ann", 1, 3), one(5, "ann", 2, 7), one(9, "ann", 3, 5)}, "ann", 7, stays{stay(3, 7, 2, 1), stay(5, 7, 9, 3)}},
		{row{one(2, "ann", 1, 3), one(5, "ann", 2, 8), one(9, "ann", 3, 5)}, "ann", 8, stays{stay(3, 8, 2, 1), stay(5, 8, 9, 3)}},
		// Out of order by time; of one From by N, and of one N, too, by Status.
		{row{one(2, "ann", 1, 6), one(5, "ann", 2, 4), one(9, "ann", 3, 5)}, "ann", 9, stays{stay(4, 9, 5, 2), stay(5, 9, 9, 3), stay(6, 9, 2, 1)}},
		{row{one(9, "ann", 1, 3), one(2, "ann", 4, 3), one(5, "ann", 2, 3)}, "ann", 9, stays{stay(3, 9, 2, 4), stay(3, 9, 5, 2), stay(3, 9, 9, 1)}},
		{row{one(2, "ann", 4, 3), one(2, "ann", 1, 3), one(2, "ann", 2, 3)}, "ann", 9, stays{stay(3, 9, 2, 1), stay(3, 9, 2, 2), stay(3, 9, 2, 4)}},
		// The same ones are told as often as they are there.
		{row{ann(2), ann(2)}, "ann", 9, stays{stay(3, 9, 2, 1), stay(3, 9, 2, 1)}},
		// Numbers that Rising refuses, and those at both ends; names that are not right, and that are empty.
		{row{one(0, "ann", 0, -3), one(-1, "ann", -2, -9)}, "ann", -1, stays{stay(-9, -1, -1, -2), stay(-3, -1, 0, 0)}},
		{row{one(least, "ann", greatest, least), one(greatest, "ann", least, 0)}, "ann", greatest, stays{stay(least, greatest, least, greatest), stay(0, greatest, greatest, least)}},
		{row{one(2, "ann", 1, least)}, "ann", least, nil},
		{row{one(2, "ann", 1, greatest)}, "ann", least, nil},
		{row{one(2, "ann", 1, greatest)}, "ann", greatest, nil},
		{row{one(2, "", 1, 3), one(5, "\xff", 1, 3), one(9, "A!", 1, 3)}, "", 7, stays{stay(3, 7, 2, 1)}},
		{row{one(2, "", 1, 3), one(5, "\xff", 1, 3), one(9, "A!", 1, 3)}, "\xff", 7, stays{stay(3, 7, 5, 1)}},
	} {
		if got := sess.Stays(x.l, x.user, x.when); !slices.Equal(got, x.want) {
			t.Errorf("P10.3: Stays: %v, %q, %d: %v", x.l, x.user, x.when, got)
		}
	}
}

func TestUsers(t *testing.T) {
	for _, x := range []struct {
		l    row
		want []string
	}{
		{nil, nil},
		{row{}, nil},
		{row{ann(2)}, []string{"ann"}},
		{row{ann(2), bob(5)}, []string{"ann", "bob"}},
		{row{bob(2), ann(5)}, []string{"ann", "bob"}},
		// Entries that share a user, side by side, and not.
		{row{ann(2), ann(5)}, []string{"ann"}},
		{row{ann(2), bob(5), ann(9)}, []string{"ann", "bob"}},
		{row{bob(2), ann(5), bob(9), ann(11), bob(12)}, []string{"ann", "bob"}},
		{filled(api.MaxOpen + 1), []string{"ann"}},
		// Byte by byte; names that are not right, and that are empty.
		{row{one(1, "b", 1, 0), one(2, "aa", 1, 0), one(3, "a", 1, 0), one(4, "9", 1, 0), one(5, "10", 1, 0)}, []string{"10", "9", "a", "aa", "b"}},
		{row{one(1, "\xff", 1, 0), one(2, "", 1, 0), one(3, "a", 1, 0), one(4, "A", 1, 0), one(5, "", 1, 0)}, []string{"", "A", "a", "\xff"}},
	} {
		if got := sess.Users(x.l); !slices.Equal(got, x.want) {
			t.Errorf("P10.3: Users: %v: %q", x.l, got)
		}
	}
}

func TestWithout(t *testing.T) {
	l := row{ann(2), bob(5), ann(9), one(11, "eve", 3, 0)}
	for _, x := range []struct {
		l    row
		u    string
		want row
	}{
		{nil, "ann", nil},
		{row{}, "", nil},
		// There once, several times, not at all.
		{l, "bob", row{ann(2), ann(9), one(11, "eve", 3, 0)}},
		{l, "eve", row{ann(2), bob(5), ann(9)}},
		{l, "ann", row{bob(5), one(11, "eve", 3, 0)}},
		{l, "zoe", l},
		{row{ann(2)}, "ann", nil},
		{row{ann(2), ann(5)}, "ann", nil},
		// Whole names alone, byte by byte; names that are not right, and that are empty.
		{l, "an", l},
		{l, "anna", l},
		{l, "Ann", l},
		{l, "", l},
		{row{one(1, "", 1, 0), one(2, "\xff", 1, 0), one(3, "A!", 1, 0)}, "", row{one(2, "\xff", 1, 0), one(3, "A!", 1, 0)}},
		{row{one(1, "", 1, 0), one(2, "\xff", 1, 0), one(3, "A!", 1, 0)}, "\xff", row{one(1, "", 1, 0), one(3, "A!", 1, 0)}},
		// A row that does not rise keeps its order; the same ones count like any other.
		{row{bob(9), ann(2), bob(5), bob(5), ann(1)}, "ann", row{bob(9), bob(5), bob(5)}},
		{with(filled(api.MaxOpen), bob(0), bob(99)), "ann", row{bob(0), bob(99)}},
	} {
		if got := sess.Without(x.l, x.u); !slices.Equal(got, x.want) {
			t.Errorf("P10.3: Without: %v, %q: %v", x.l, x.u, got)
		}
	}
}

func TestRising(t *testing.T) {
	long := strings.Repeat("a", api.MaxName)
	for _, x := range []struct {
		l    row
		want bool
	}{
		{nil, true},
		{row{}, true},
		{row{ann(2)}, true},
		{row{{}}, false},
		// Each limit: just within it, just beyond it, and at both ends.
		{row{ann(1)}, true},
		{row{ann(0)}, false},
		{row{ann(-1)}, false},
		{row{ann(least)}, false},
		{row{ann(api.MaxSess)}, true},
		{row{ann(api.MaxSess + 1)}, false},
		{row{ann(greatest)}, false},
		{row{one(2, "ann", 1, 3)}, true},
		{row{one(2, "ann", 0, 3)}, false},
		{row{one(2, "ann", -1, 3)}, false},
		{row{one(2, "ann", least, 3)}, false},
		{row{one(2, "ann", api.MaxStatus, 3)}, true},
		{row{one(2, "ann", api.MaxStatus+1, 3)}, false},
		{row{one(2, "ann", greatest, 3)}, false},
		{row{one(2, "ann", 1, 0)}, true},
		{row{one(2, "ann", 1, -1)}, false},
		{row{one(2, "ann", 1, least)}, false},
		{row{one(2, "ann", 1, forever-1)}, true},
		{row{one(2, "ann", 1, forever)}, false},
		{row{one(2, "ann", 1, forever+1)}, false},
		{row{one(2, "ann", 1, greatest)}, false},
		// Names.
		{row{one(2, "a", 1, 3)}, true},
		{row{one(2, long, 1, 3)}, true},
		{row{one(2, long+"a", 1, 3)}, false},
		{row{one(2, "", 1, 3)}, false},
		{row{one(2, "Ann", 1, 3)}, false},
		{row{one(2, "a b", 1, 3)}, false},
		{row{one(2, "\xff", 1, 3)}, false},
		// One that is not right, at the first place, in the middle, last.
		{row{ann(0), ann(2), ann(3)}, false},
		{row{ann(1), one(2, "", 1, 3), ann(3)}, false},
		{row{ann(1), one(2, "ann", 5, 3), ann(3)}, false},
		{row{ann(1), ann(2), one(3, "ann", 1, -1)}, false},
		{row{ann(1), ann(2), ann(api.MaxSess + 1)}, false},
		// By N alone, whatever users, statuses and times.
		{row{ann(1), ann(2)}, true},
		{row{bob(1), ann(2)}, true},
		{row{one(1, "b", 4, 9), one(2, "a", 1, 3)}, true},
		{row{ann(9), ann(10)}, true},
		{row{ann(1), ann(api.MaxSess)}, true},
		{row{ann(2), ann(1)}, false},
		{row{ann(2), bob(1)}, false},
		{row{ann(2), ann(2)}, false},
		{row{ann(2), bob(2)}, false},
		{row{one(2, "ann", 1, 3), one(2, "ann", 1, 4)}, false},
		{row{ann(1), ann(3), ann(2)}, false},
		{row{ann(1), ann(3), ann(3)}, false},
		{row{ann(1), ann(1), ann(3)}, false},
		{row{ann(2), ann(1), ann(3)}, false},
		// With MaxOpen entries, one less, and one more.
		{filled(api.MaxOpen - 1), true},
		{filled(api.MaxOpen), true},
		{filled(api.MaxOpen + 1), false},
		{filled(2 * api.MaxOpen), false},
		{with(filled(api.MaxOpen-1), ann(1)), false},
	} {
		if got := sess.Rising(x.l); got != x.want {
			t.Errorf("P10.3: Rising: %v: %v", x.l, got)
		}
	}
}

func TestSame(t *testing.T) {
	for _, x := range []struct {
		a, b row
		want bool
	}{
		{nil, nil, true},
		{nil, row{}, true},
		{row{ann(2)}, row{ann(2)}, true},
		{row{{}}, row{{}}, true},
		{row{bob(9), ann(2), ann(2)}, row{bob(9), ann(2), ann(2)}, true},
		{row{one(least, "\xff", greatest, least)}, row{one(least, "\xff", greatest, least)}, true},
		{filled(api.MaxOpen + 1), filled(api.MaxOpen + 1), true},
		// Rows of different lengths.
		{nil, row{ann(2)}, false},
		{nil, row{{}}, false},
		{row{ann(2)}, row{ann(2), ann(2)}, false},
		{row{ann(2)}, row{ann(2), bob(5)}, false},
		{row{bob(5)}, row{ann(2), bob(5)}, false},
		{filled(api.MaxOpen), filled(api.MaxOpen + 1), false},
		// One thing alone, at the first place, in the middle, last.
		{row{ann(2)}, row{ann(3)}, false},
		{row{ann(2)}, row{one(2, "anna", 1, 3)}, false},
		{row{ann(2)}, row{one(2, "Ann", 1, 3)}, false},
		{row{ann(2)}, row{one(2, "ann", 2, 3)}, false},
		{row{ann(2)}, row{one(2, "ann", 1, 4)}, false},
		{row{ann(2)}, row{one(2, "ann", 3, 1)}, false},
		{row{ann(2), bob(5), ann(9)}, row{ann(1), bob(5), ann(9)}, false},
		{row{ann(2), bob(5), ann(9)}, row{ann(2), ann(5), ann(9)}, false},
		{row{ann(2), bob(5), ann(9)}, row{ann(2), bob(5), one(9, "ann", 1, 2)}, false},
		// The same entries in another order.
		{row{ann(2), bob(5)}, row{bob(5), ann(2)}, false},
		{row{one(2, "ann", 1, least)}, row{one(2, "ann", 1, greatest)}, false},
	} {
		if got := sess.Same(x.a, x.b); got != x.want {
			t.Errorf("P10.3: Same: %v, %v: %v", x.a, x.b, got)
		}
		if got := sess.Same(x.b, x.a); got != x.want {
			t.Errorf("P10.3: Same: %v, %v: %v", x.b, x.a, got)
		}
	}
}

// check holds all that is told of a row, an entry, a status and a time against the model.
func check(t *testing.T, l row, e sess.Entry, status, when int) {
	t.Helper()
	got, err := sess.Open(l, e)
	if want, wantErr := opened(l, e); err != wantErr || !slices.Equal(got, want) {
		t.Fatalf("P10.1: Open: %v, %v: %v, %d", l, e, got, err)
	}
	that, err := sess.Find(l, e.N, e.User)
	if want, wantErr := found(l, e.N, e.User); err != wantErr || that != want {
		t.Fatalf("P10.1: Find: %v, %d, %q: %v, %d", l, e.N, e.User, that, err)
	}
	got, s, err := sess.Change(l, e.N, e.User, status, when)
	if want, was, wantErr := changed(l, e.N, e.User, status, when); err != wantErr || s != was || !slices.Equal(got, want) {
		t.Fatalf("P10.2: Change: %v, %d, %q, %d, %d: %v, %v, %d", l, e.N, e.User, status, when, got, s, err)
	}
	got, s, err = sess.Close(l, e.N, e.User, when)
	if want, was, wantErr := closed(l, e.N, e.User, when); err != wantErr || s != was || !slices.Equal(got, want) {
		t.Fatalf("P10.2: Close: %v, %d, %q, %d: %v, %v, %d", l, e.N, e.User, when, got, s, err)
	}
	checkRow(t, l, e.User, when)
}

func checkRow(t *testing.T, l row, user string, when int) {
	t.Helper()
	if got := sess.Stays(l, user, when); !slices.Equal(got, stayed(l, user, when)) {
		t.Fatalf("P10.3: Stays: %v, %q, %d: %v", l, user, when, got)
	}
	if got := sess.Users(l); !slices.Equal(got, users(l)) {
		t.Fatalf("P10.3: Users: %v: %q", l, got)
	}
	if got := sess.Without(l, user); !slices.Equal(got, without(l, user)) {
		t.Fatalf("P10.3: Without: %v, %q: %v", l, user, got)
	}
	if sess.Rising(l) != rises(l) {
		t.Fatalf("P10.3: Rising: %v: %v", l, sess.Rising(l))
	}
	if more := with(l, one(1, user, 1, when)); !sess.Same(l, slices.Clone(l)) || sess.Same(l, more) {
		t.Fatalf("P10.3: Same: %v", l)
	}
}

// sessions are some numbers of sessions, within the limits and beyond them.
func sessions() []int {
	return []int{least, least + 1, -1, 0, 1, 2, 3, 4, 5, 500, api.MaxSess - 1, api.MaxSess, api.MaxSess + 1, greatest - 1, greatest}
}

// names are such as are right and such as are not; few of them, so that entries share them.
func names() []string { return []string{"a", "b", "c", "", "B"} }

func statuses() []int { return []int{least, -1, 0, 1, 2, 3, 4, 5, greatest} }

// times are those around 0, and those at both ends.
func times() []int {
	return []int{least, least + 1, -2, -1, 0, 1, 2, 3, 5, 9, forever - 1, forever, forever + 1, greatest - 1, greatest}
}

func pick[T any](r *rand.Rand, l []T) T { return l[r.IntN(len(l))] }

func someEntry(r *rand.Rand) sess.Entry {
	return one(pick(r, sessions()), pick(r, names()), pick(r, statuses()), pick(r, times()))
}

// rightEntry is one that Rising lets stand.
func rightEntry(r *rand.Rand) sess.Entry {
	return one(1+r.IntN(24), pick(r, names()[:3]), 1+r.IntN(4), r.IntN(9))
}

// someEntries are up to most, by chance.
func someEntries(r *rand.Rand, most int, some func(*rand.Rand) sess.Entry) row {
	var l row
	for range r.IntN(most + 1) {
		l = append(l, some(r))
	}
	return l
}

// risen is a row that rises, made of some that does not.
func risen(l row) row {
	l = slices.Clone(l)
	slices.SortStableFunc(l, func(e, o sess.Entry) int { return slices.Compare([]int{e.N}, []int{o.N}) })
	var told row
	for _, e := range l {
		if rises(with(told, e)) {
			told = append(told, e)
		}
	}
	return told
}

func TestEachShortRow(t *testing.T) {
	var all row
	for _, n := range []int{0, 1, 2} {
		for _, user := range []string{"a", "b", ""} {
			for _, status := range []int{1, 5} {
				for _, from := range []int{0, 1} {
					all = append(all, one(n, user, status, from))
				}
			}
		}
	}
	rows := []row{nil}
	for _, e := range all {
		rows = append(rows, row{e})
		for _, o := range all {
			rows = append(rows, row{e, o})
		}
	}
	for _, l := range rows {
		for _, e := range append(slices.Clone(all), ann(3)) {
			for _, when := range []int{-1, 0, 1, 2} {
				check(t, l, e, 2, when)
			}
		}
	}
}

func TestRowsByChance(t *testing.T) {
	r := rand.New(rand.NewPCG(10, 1))
	for range 20000 {
		for _, some := range []func(*rand.Rand) sess.Entry{someEntry, rightEntry} {
			l := someEntries(r, api.MaxOpen+2, some)
			e := some(r)
			if len(l) > 0 && r.IntN(2) == 0 {
				e = pick(r, l)
			}
			check(t, l, e, pick(r, statuses()), pick(r, times()))
			check(t, risen(l), e, 1+r.IntN(4), r.IntN(9))
		}
	}
}

// TestRisingRowsGoOn asks what follows of a row that rises and an entry that may stand in it.
func TestRisingRowsGoOn(t *testing.T) {
	r := rand.New(rand.NewPCG(10, 2))
	for range 20000 {
		l := risen(someEntries(r, 2*api.MaxOpen, rightEntry))
		e := rightEntry(r)
		e.From = pick(r, []int{0, e.From, forever - 1})
		if more, err := sess.Open(l, e); !sess.Rising(more) || err == api.OK && len(more) != len(l)+1 {
			t.Fatalf("P10.4: %v rises, but Open of %v makes %v, %d", l, e, more, err)
		}
		if len(l) == 0 {
			continue
		}
		o := pick(r, l)
		if other, _, err := sess.Change(l, o.N, o.User, e.Status, e.From); err != api.OK || !sess.Rising(other) || len(other) != len(l) {
			t.Fatalf("P10.4: %v rises, but Change of %v makes %v, %d", l, o, other, err)
		}
		if fewer, _, err := sess.Close(l, o.N, o.User, e.From); err != api.OK || !sess.Rising(fewer) || len(fewer) != len(l)-1 {
			t.Fatalf("P10.4: %v rises, but Close of %v makes %v, %d", l, o, fewer, err)
		}
	}
}

// life is what is known beside a row of a session that is open: when it was opened, and which stays it has had.
type life struct {
	user string
	from int
	had  stays
}

// whole holds what a session stayed, up to when, against all the time since its opening.
func (x life) whole(t *testing.T, when int) {
	t.Helper()
	var spans []span.Span
	sum := 0
	for _, s := range x.had {
		if !s.None() {
			spans = append(spans, s.Span)
			sum += s.To - s.From
		}
	}
	if all := span.Norm([]span.Span{{From: x.from, To: when}}); !span.Same(span.Norm(spans), all) {
		t.Fatalf("P10.4: of a session from %d up to %d the stays are %v", x.from, when, x.had)
	}
	if sum != when-x.from {
		t.Fatalf("P10.4: of a session from %d up to %d some time is told twice: %v", x.from, when, x.had)
	}
}

// stillOpen is what Stays tells of one session among the user's.
func stillOpen(l row, user string, n, when int) stays {
	return slices.DeleteFunc(sess.Stays(l, user, when), func(s hist.Stay) bool { return s.N != n })
}

// turn opens the session, or changes or closes it, and asks what it stayed so far.
func turn(t *testing.T, r *rand.Rand, l row, lives map[int]life, n, when int) row {
	t.Helper()
	x, on := lives[n]
	if !on {
		user := pick(r, names()[:3])
		more, err := sess.Open(l, one(n, user, 1+r.IntN(4), when))
		if err == api.OK {
			lives[n] = life{user, when, nil}
			return more
		}
		if err != api.ErrSessMany || len(lives) < api.MaxOpen {
			t.Fatalf("P10.1: Open of %d in %v: %d", n, l, err)
		}
		return l
	}
	life{x.user, x.from, append(slices.Clone(x.had), stillOpen(l, x.user, n, when)...)}.whole(t, when)
	e, _ := sess.Find(l, n, x.user)
	shut := r.IntN(3) == 0
	next, s, err := sess.Change(l, n, x.user, 1+r.IntN(4), when)
	if shut {
		next, s, err = sess.Close(l, n, x.user, when)
	}
	if err != api.OK || s.N != n || s.Status != e.Status {
		t.Fatalf("P10.2: %d in %v at %d: %v, %d", n, l, when, s, err)
	}
	x.had = append(slices.Clone(x.had), s)
	x.whole(t, when)
	if lives[n] = x; shut {
		delete(lives, n)
	}
	return next
}

// TestSessionsThatAreLived opens, changes and closes sessions by chance, in time, from nothing on.
func TestSessionsThatAreLived(t *testing.T) {
	r := rand.New(rand.NewPCG(10, 3))
	for range 300 {
		var l row
		lives := map[int]life{}
		when := 0
		for range 80 {
			when += r.IntN(3)
			l = turn(t, r, l, lives, 1+r.IntN(24), when)
			if !sess.Rising(l) || len(l) != len(lives) {
				t.Fatalf("P10.4: what was opened, changed and closed in time does not rise: %v", l)
			}
		}
	}
}

func TestExample(t *testing.T) {
	l, err := sess.Open(nil, one(2, "ann", 1, 3))
	if err != api.OK {
		t.Fatalf("P10.1: the chapter's example: %d", err)
	}
	left, s, err := sess.Close(l, 2, "ann", 7)
	if err != api.OK || len(left) != 0 || s != stay(3, 7, 2, 1) {
		t.Errorf("P10.2: the chapter's example: %v, %v, %d", left, s, err)
	}
}

// TestManyEntries has rows that are far longer than MaxOpen: no call but Open and Rising asks for that.
func TestManyEntries(t *testing.T) {
	const many = 1 << 18
	var l row
	for k := range many {
		l = append(l, one(many-k, "ann", 1+k%4, k))
	}
	if _, err := sess.Open(l, ann(many+1)); err != api.ErrSessMany {
		t.Errorf("P10.1: Open behind many entries: %d", err)
	}
	if _, err := sess.Open(l, ann(1)); err != api.ErrSessOpen {
		t.Errorf("P10.1: Open of the last of many entries: %d", err)
	}
	if e, err := sess.Find(l, 1, "ann"); err != api.OK || e != l[many-1] {
		t.Errorf("P10.1: Find of the last of many entries: %v, %d", e, err)
	}
	if got, s, err := sess.Change(l, 1, "ann", 3, many); err != api.OK || len(got) != many || got[many-1] != one(1, "ann", 3, many) || s != stay(many-1, many, 1, 4) {
		t.Errorf("P10.2: Change of the last of many entries: %v, %d", s, err)
	}
	if got, s, err := sess.Close(l, many, "ann", many); err != api.OK || len(got) != many-1 || got[0] != l[1] || s != stay(0, many, many, 1) {
		t.Errorf("P10.2: Close of the first of many entries: %v, %d", s, err)
	}
	if got := sess.Stays(l, "ann", many); len(got) != many || !hist.Rising(got) {
		t.Errorf("P10.3: Stays of many entries: %d", len(got))
	}
	if len(sess.Users(l)) != 1 || len(sess.Without(l, "ann")) != 0 || len(sess.Without(l, "bob")) != many || sess.Rising(l) {
		t.Error("P10.3: Users, Without, Rising of many entries")
	}
}

// calls are all those that tell a row of entries.
func calls() map[string]func(l row) row {
	opened := func(l row, _ api.Errno) row { return l }
	turned := func(l row, _ hist.Stay, _ api.Errno) row { return l }
	return map[string]func(l row) row{
		"Open ahead":   func(l row) row { return opened(sess.Open(l, bob(1))) },
		"Open between": func(l row) row { return opened(sess.Open(l, bob(4))) },
		"Open behind":  func(l row) row { return opened(sess.Open(l, bob(99))) },
		"Open again":   func(l row) row { return opened(sess.Open(l, ann(2))) },
		"Change":       func(l row) row { return turned(sess.Change(l, 2, "ann", 4, 7)) },
		"Change none":  func(l row) row { return turned(sess.Change(l, 2, "ann", 1, 3)) },
		"Change other": func(l row) row { return turned(sess.Change(l, 5, "ann", 4, 7)) },
		"Close":        func(l row) row { return turned(sess.Close(l, 2, "ann", 7)) },
		"Close middle": func(l row) row { return turned(sess.Close(l, 5, "bob", 7)) },
		"Close last":   func(l row) row { return turned(sess.Close(l, 9, "ann", 7)) },
		"Without one":  func(l row) row { return sess.Without(l, "bob") },
		"Without some": func(l row) row { return sess.Without(l, "ann") },
		"Without none": func(l row) row { return sess.Without(l, "eve") },
	}
}

// given are rows of all kinds: those to which a call has nothing to do are the ones that a lazy answer would hand back.
func given() []row {
	return []row{
		nil,
		{},
		{ann(2)},
		{bob(5)},
		{ann(9)},
		{ann(2), bob(5), ann(9)},
		{ann(9), bob(5), ann(2), bob(2)},
		filled(api.MaxOpen - 1),
		filled(api.MaxOpen),
	}
}

// scrawl writes into all that it is given, and behind its end.
func scrawl(l row) {
	for i := range l {
		l[i] = one(-7, "w", 77, -77)
	}
	_ = append(l, one(-8, "v", 88, -88), one(-9, "u", 99, -99))
}

// asked makes the calls that tell no row of entries; what is told is written into.
func asked(l row) {
	for _, user := range []string{"ann", "bob", "eve", ""} {
		told := sess.Stays(l, user, 7)
		for i := range told {
			told[i] = stay(-7, 77, -7, 77)
		}
		_ = append(told, stay(1, 2, 3, 4))
		sess.Find(l, 2, user)
	}
	told := sess.Users(l)
	for i := range told {
		told[i] = "w"
	}
	_ = append(told, "v", "u")
	sess.Rising(l)
	sess.Same(l, l)
}

// TestGivenEntries has rows with room behind them, in which others stand, and rows without.
func TestGivenEntries(t *testing.T) {
	for what, call := range calls() {
		for _, x := range given() {
			for _, behind := range []row{nil, {bob(1), ann(4), one(0, "", 0, 0), ann(99)}} {
				l := with(x, behind...)
				kept := slices.Clone(l)
				scrawl(call(l[:len(x)]))
				asked(l[:len(x)])
				if !slices.Equal(l, kept) {
					t.Errorf("R5: %s: %v became %v", what, kept, l)
				}
			}
		}
	}
}

func TestToldIsTheCallersOwn(t *testing.T) {
	for what, call := range calls() {
		for _, x := range given() {
			l := slices.Clone(x)
			first, second := call(l), call(l)
			kept := slices.Clone(second)
			scrawl(first)
			if !slices.Equal(l, x) || !slices.Equal(second, kept) {
				t.Errorf("R6: %s: written into what was told of %v: %v, %v", what, x, l, second)
			}
			scrawl(l)
			if !slices.Equal(second, kept) {
				t.Errorf("R6: %s: written into what was given, %v: %v", what, x, second)
			}
		}
	}
}

func TestToldStaysAndUsersAreTheCallersOwn(t *testing.T) {
	for _, x := range given() {
		l := slices.Clone(x)
		told, names := sess.Stays(l, "ann", 7), sess.Users(l)
		keptStays, keptNames := slices.Clone(told), slices.Clone(names)
		asked(l)
		scrawl(l)
		if !slices.Equal(told, keptStays) || !slices.Equal(names, keptNames) {
			t.Errorf("R6: Stays, Users of %v: %v, %q", x, told, names)
		}
	}
}

func TestToldAgain(t *testing.T) {
	r := rand.New(rand.NewPCG(10, 4))
	for range 500 {
		l := someEntries(r, api.MaxOpen, rightEntry)
		// With room behind them, and without: no answer hangs on it.
		roomy := with(l, ann(1), bob(2))[:len(l)]
		for what, call := range calls() {
			if first, again := fmt.Sprint(call(l)), fmt.Sprint(call(roomy)); first != again {
				t.Fatalf("R7: %s: %v: %s, and then %s", what, l, first, again)
			}
		}
		if !slices.Equal(sess.Stays(l, "a", 7), sess.Stays(roomy, "a", 7)) || !slices.Equal(sess.Users(l), sess.Users(roomy)) {
			t.Fatalf("R7: Stays, Users of %v", l)
		}
	}
}
