package page_test

import (
	"fmt"
	"math"
	"math/rand/v2"
	"regexp"
	"slices"
	"strconv"

	"afterglow/api"
	"afterglow/hist"
	"afterglow/span"
)

const (
	forever  = 1 << 40
	least    = math.MinInt
	greatest = math.MaxInt
)

func stay(from, to, n, status int) hist.Stay {
	return hist.Stay{Span: span.Span{From: from, To: to}, N: n, Status: status}
}

// stays are one from each four numbers: From, To, N and Status.
func stays(l ...int) []hist.Stay {
	var row []hist.Stay
	for ; len(l) >= 4; l = l[4:] {
		row = append(row, stay(l[0], l[1], l[2], l[3]))
	}
	return row
}

// long is a row of count stays, each of a time of its own.
func long(count int) []hist.Stay {
	var row []hist.Stay
	for i := range count {
		row = append(row, stay(2*i, 2*i+1, 1, 1))
	}
	return row
}

// mixed is a row whose stays differ from the ones ahead of them in each of their numbers, now and then in one alone.
func mixed() []hist.Stay {
	return stays(
		0, 1, 0, 0,
		0, 1, 0, 1,
		0, 1, 2, 0,
		0, 10, 1, 0,
		2, 3, 5, 4,
		3, 9, 1, 2,
		10, 11, 1, 1,
		10, forever, 999, 4,
		forever-1, forever, 0, 0,
		forever-1, forever, forever, forever,
	)
}

func fields(s hist.Stay) []int { return []int{s.From, s.To, s.N, s.Status} }

func compare(s, o hist.Stay) int { return slices.Compare(fields(s), fields(o)) }

// key is a stay's Key, by the chapter's words, written a second time.
func key(s hist.Stay) string {
	for _, n := range fields(s) {
		if n < 0 || n > forever {
			return ""
		}
	}
	return fmt.Sprintf("%d.%d.%d.%d", s.From, s.To, s.N, s.Status)
}

var form = regexp.MustCompile(`\A(0|[1-9][0-9]{0,12})\.(0|[1-9][0-9]{0,12})\.(0|[1-9][0-9]{0,12})\.(0|[1-9][0-9]{0,12})\z`)

// parse reads a Key by its form alone, and then holds its numbers against their limit.
func parse(cursor string) (hist.Stay, bool) {
	m := form.FindStringSubmatch(cursor)
	if m == nil {
		return hist.Stay{}, false
	}
	var l []int
	for _, text := range m[1:] {
		n, err := strconv.Atoi(text)
		if err != nil || n > forever {
			return hist.Stay{}, false
		}
		l = append(l, n)
	}
	return stays(l...)[0], true
}

// row: does each stay have a Key, some time, and stand above all that are ahead of it?
func row(l []hist.Stay) bool {
	for i, s := range l {
		if key(s) == "" || s.To <= s.From {
			return false
		}
		for _, ahead := range l[:i] {
			if compare(s, ahead) <= 0 {
				return false
			}
		}
	}
	return true
}

// of holds each stay against the cursor's, and goes by the chapter's words.
func of(l []hist.Stay, cursor string, n int) ([]hist.Stay, string, api.Errno) {
	c, is := parse(cursor)
	if !row(l) || cursor != "" && !is {
		return nil, "", 140
	}
	var above []hist.Stay
	for _, s := range l {
		if cursor == "" || compare(s, c) > 0 {
			above = append(above, s)
		}
	}
	if n < 1 {
		n = 1
	}
	if n > 100 {
		n = 100
	}
	if len(above) <= n {
		return above, "", 0
	}
	return above[:n], key(above[n-1]), 0
}

// cursors are an empty one, those of each stay of l, of stays just below and above them, and of some that are ahead of all, and behind all.
func cursors(l []hist.Stay) []string {
	all := []string{"", "0.0.0.0", key(stay(forever, forever, forever, forever))}
	for _, s := range l {
		for d := -1; d <= 1; d++ {
			for _, o := range []hist.Stay{stay(s.From+d, s.To, s.N, s.Status), stay(s.From, s.To+d, s.N, s.Status), stay(s.From, s.To, s.N+d, s.Status), stay(s.From, s.To, s.N, s.Status+d)} {
				if k := key(o); k != "" {
					all = append(all, k)
				}
			}
		}
	}
	return all
}

// noCursors are texts that are neither empty nor a Key.
func noCursors() []string {
	return []string{
		"x", " ", ".", "..", "...", "....", "-", "0", "1", "1.2", "1.2.3", "1.2.3.", ".1.2.3", "1..2.3", "1.2..3",
		"1.2.3.4.", ".1.2.3.4", "1.2.3.4.5", "1.2.3.4.5.6", "..1.2.3.4", "1.2.3.4..", "1.2..3.4", "1..2.3.4", "1.2.3..4",
		"01.2.3.4", "1.02.3.4", "1.2.03.4", "1.2.3.04", "00.2.3.4", "0.0.0.00",
		"-1.2.3.4", "1.-2.3.4", "1.2.-3.4", "1.2.3.-4", "-0.2.3.4", "+1.2.3.4", "1.2.3.+4",
		" 1.2.3.4", "1.2.3.4 ", "1 .2.3.4", "1. 2.3.4", "1.2.3.4\n", "\n1.2.3.4", "1.2.3.4\x00", "1 2 3 4", "1,2,3,4", "1.2.3,4",
		"a.2.3.4", "1.f.3.4", "1.2.0x1.4", "1.2.3.1e1", "1_0.2.3.4", "1.2.3.4x", "1.2.3.\u0664", "1\uff0e2.3.4", "\xff.2.3.4",
		"1099511627777.2.3.4", "1.1099511627777.3.4", "1.2.1099511627777.4", "1.2.3.1099511627777",
		"10995116277760.2.3.4", "1.9223372036854775807.3.4", "1.2.9223372036854775808.4", "1.2.3.18446744073709551616", "18446744073709551617.2.3.4",
		"1.2.3.100000000000000000000000000000000000000000000000000000000000000",
	}
}

// someRow is one that rises, whose stays all have Keys, of few numbers, so that they are close together.
func someRow(r *rand.Rand, most int) []hist.Stay {
	var l []hist.Stay
	for range r.IntN(most + 1) {
		from := r.IntN(most + 1)
		l = append(l, stay(from, from+1+r.IntN(3), r.IntN(3), r.IntN(3)))
	}
	slices.SortFunc(l, compare)
	return slices.Compact(l)
}

// someCursor is empty, no Key, or one of a stay that is close to those of such rows.
func someCursor(r *rand.Rand, most int) string {
	switch r.IntN(12) {
	case 0, 1:
		return ""
	case 2:
		return noCursors()[r.IntN(len(noCursors()))]
	}
	from := r.IntN(most + 2)
	return key(stay(from, from+r.IntN(4), r.IntN(3), r.IntN(3)))
}
