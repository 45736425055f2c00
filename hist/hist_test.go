package hist_test

import (
	"fmt"
	"math"
	"math/rand/v2"
	"slices"
	"testing"

	"afterglow/api"
	"afterglow/hist"
	"afterglow/span"
)

const (
	least    = math.MinInt
	greatest = math.MaxInt
)

func stay(from, to, n, status int) hist.Stay {
	return hist.Stay{Span: span.Span{From: from, To: to}, N: n, Status: status}
}

// stays are one from each four numbers: From, To, N and Status.
func stays(l ...int) []hist.Stay {
	var row []hist.Stay
	for ; len(l) >= 4; l = l[4:] {
		row = append(row, stay(l[0], l[1], l[2], l[3]))
	}
	return row
}

// spans are those from each number up to the one behind it.
func spans(l ...int) []span.Span {
	var row []span.Span
	for ; len(l) >= 2; l = l[2:] {
		row = append(row, span.Span{From: l[0], To: l[1]})
	}
	return row
}

// ticks are numbers, rising. The model below knows spans only from one of these up to another one, by their cells: the stretches from a tick up to the next one.
type ticks []int

func small() ticks { return ticks{0, 1, 2, 3} }

// wide are the numbers at both ends, those around 0, and those at which there are no times any more.
func wide() ticks {
	return ticks{least, least + 1, -2, -1, 0, 1, 2, api.Forever - 1, api.Forever, greatest - 1, greatest}
}

// grid are n ticks around 0.
func grid(n int) ticks {
	var x ticks
	for k := range n {
		x = append(x, 3*k-n)
	}
	return x
}

// spans are all those from one tick up to another one, those that have no time among them.
func (x ticks) spans() []span.Span {
	var l []span.Span
	for _, from := range x {
		for _, to := range x {
			l = append(l, span.Span{From: from, To: to})
		}
	}
	return l
}

// stays are all those of such a span, a session and a status of these.
func (x ticks) stays(numbers ...int) []hist.Stay {
	var l []hist.Stay
	for _, s := range x.spans() {
		for _, n := range numbers {
			for _, status := range numbers {
				l = append(l, hist.Stay{Span: s, N: n, Status: status})
			}
		}
	}
	return l
}

// rows are all rows of up to most of these.
func rows[T any](most int, of []T) [][]T {
	all := [][]T{nil}
	longest := all
	for range most {
		var longer [][]T
		for _, l := range longest {
			for _, x := range of {
				longer = append(longer, append(slices.Clone(l), x))
			}
		}
		all = append(all, longer...)
		longest = longer
	}
	return all
}

// span is one by chance: a long one or a short one, and one without time now and then.
func (x ticks) span(r *rand.Rand) span.Span {
	from, long := r.IntN(len(x)), 1+r.IntN(len(x))
	to := min(max(from+r.IntN(2*long)-long/3, 0), len(x)-1)
	return span.Span{From: x[from], To: x[to]}
}

// row is one of up to most spans, by chance.
func (x ticks) row(r *rand.Rand, most int) []span.Span {
	var l []span.Span
	for range r.IntN(most + 1) {
		l = append(l, x.span(r))
	}
	return l
}

// someStays are up to most of them, by chance: of few sessions, so that there are alike ones.
func (x ticks) someStays(r *rand.Rand, most int) []hist.Stay {
	var l []hist.Stay
	for range r.IntN(most + 1) {
		l = append(l, hist.Stay{Span: x.span(r), N: r.IntN(3), Status: r.IntN(3)})
	}
	return l
}

// fields are a stay's, in the order in which the chapter holds them against each other.
func fields(s hist.Stay) []int { return []int{s.From, s.To, s.N, s.Status} }

func above(s, o hist.Stay) bool { return slices.Compare(fields(s), fields(o)) > 0 }

func sorted(l []hist.Stay) []hist.Stay {
	l = slices.Clone(l)
	slices.SortFunc(l, func(s, o hist.Stay) int { return slices.Compare(fields(s), fields(o)) })
	return l
}

// rises holds each stay against all that are ahead of it.
func rises(l []hist.Stay) bool {
	for i, s := range l {
		if s.To <= s.From {
			return false
		}
		for _, ahead := range l[:i] {
			if !above(s, ahead) {
				return false
			}
		}
	}
	return true
}

// added goes from the front on, and keeps the place behind each stay that is not above s.
func added(l []hist.Stay, s hist.Stay) []hist.Stay {
	if s.To <= s.From {
		return l
	}
	place := 0
	for i := range l {
		if !above(l[i], s) {
			place = i + 1
		}
	}
	return slices.Insert(slices.Clone(l), place, s)
}

// cells: of each cell, has some span of l its times?
func (x ticks) cells(l []span.Span) []bool {
	in := make([]bool, len(x)-1)
	for i := range in {
		for _, s := range l {
			in[i] = in[i] || s.From <= x[i] && x[i+1] <= s.To
		}
	}
	return in
}

// cut tells each stay's cells that by has, too: a stay for each run of them.
func (x ticks) cut(l []hist.Stay, by []span.Span) []hist.Stay {
	var pieces []hist.Stay
	other := x.cells(by)
	for _, s := range l {
		in := x.cells([]span.Span{s.Span})
		running := false
		for i := range in {
			if !in[i] || !other[i] {
				running = false
				continue
			}
			if !running {
				pieces = append(pieces, stay(x[i], x[i+1], s.N, s.Status))
			}
			running = true
			pieces[len(pieces)-1].To = x[i+1]
		}
	}
	return sorted(pieces)
}

func after(l []hist.Stay, t int) []hist.Stay {
	return slices.DeleteFunc(slices.Clone(l), func(s hist.Stay) bool { return s.To <= t })
}

// last sorts the ends of the stays that have some time.
func last(l []hist.Stay) (int, bool) {
	var ends []int
	for _, s := range l {
		if s.From < s.To {
			ends = append(ends, s.To)
		}
	}
	slices.Sort(ends)
	if len(ends) == 0 {
		return 0, false
	}
	return ends[len(ends)-1], true
}

// TestStayIsASpan asks a stay what its span promises.
func TestStayIsASpan(t *testing.T) {
	s := stay(3, 5, 1, 2)
	if s.None() || !stay(5, 5, 1, 2).None() || !s.Has(3) || s.Has(5) || s.From != 3 || s.To != 5 {
		t.Errorf("P8.1: a stay is a span: %v", s)
	}
	if got := s.Meet(stay(4, 9, 7, 1).Span); got != (span.Span{From: 4, To: 5}) {
		t.Errorf("P8.1: a stay is a span: Meet: %v", got)
	}
}

func TestCmp(t *testing.T) {
	for _, x := range []struct {
		s, o hist.Stay
		want int
	}{
		{stay(1, 2, 3, 4), stay(1, 2, 3, 4), 0},
		{stay(0, 0, 0, 0), hist.Stay{}, 0},
		{stay(0, 9, 9, 9), stay(1, 2, 1, 1), -1},
		{stay(1, 2, 9, 9), stay(1, 3, 1, 1), -1},
		{stay(1, 2, 3, 9), stay(1, 2, 4, 1), -1},
		{stay(1, 2, 3, 3), stay(1, 2, 3, 4), -1},
		{stay(5, 3, 1, 1), stay(5, 4, 1, 1), -1},
		{stay(5, 3, 1, 1), stay(6, 2, 1, 1), -1},
		{stay(2, 9, 1, 1), stay(10, 11, 1, 1), -1},
		{stay(-9, 2, 1, 1), stay(-8, 2, 1, 1), -1},
		{stay(-1, 2, 1, 1), stay(0, 2, 1, 1), -1},
		{stay(1, -2, 1, 1), stay(1, -1, 1, 1), -1},
		{stay(1, 2, -1, 1), stay(1, 2, 0, 1), -1},
		{stay(1, 2, 1, -1), stay(1, 2, 1, 1), -1},
		{stay(least, 9, 9, 9), stay(greatest, 1, 1, 1), -1},
		{stay(1, least, 9, 9), stay(1, greatest, 1, 1), -1},
		{stay(1, 2, least, 9), stay(1, 2, greatest, 1), -1},
		{stay(1, 2, 3, least), stay(1, 2, 3, greatest), -1},
		{stay(least, least, least, least), stay(least, least, least, least+1), -1},
		{stay(greatest, greatest, greatest, greatest), stay(greatest, greatest, greatest, greatest), 0},
		{stay(least, least, least, least), stay(least, least, least, least), 0},
		{stay(least, least, least, least), stay(greatest, greatest, greatest, greatest), -1},
		{stay(api.Forever-1, 1, 1, 1), stay(api.Forever, 1, 1, 1), -1},
	} {
		if got := x.s.Cmp(x.o); got != x.want {
			t.Errorf("P8.1: Cmp: %v, %v: %d", x.s, x.o, got)
		}
		if got := x.o.Cmp(x.s); got != -x.want {
			t.Errorf("P8.1: Cmp: %v, %v: %d", x.o, x.s, got)
		}
	}
}

func TestCmpOfAll(t *testing.T) {
	for _, all := range [][]hist.Stay{small().stays(0, 1, 2), ticks{least, -1, 0, 1, greatest}.stays(least, 0, greatest)} {
		for _, s := range all {
			for _, o := range all {
				if got := s.Cmp(o); got != slices.Compare(fields(s), fields(o)) {
					t.Fatalf("P8.1: Cmp: %v, %v: %d", s, o, got)
				}
			}
		}
	}
}

func TestRising(t *testing.T) {
	for _, x := range []struct {
		l    []hist.Stay
		want bool
	}{
		{nil, true},
		{[]hist.Stay{}, true},
		{stays(3, 5, 1, 1), true},
		{stays(3, 4, 0, 0), true},
		{stays(-5, -3, -1, -1), true},
		{stays(least, greatest, least, greatest), true},
		{stays(3, 5, 1, 1, 4, 5, 1, 1), true},
		{stays(3, 5, 1, 1, 3, 6, 1, 1), true},
		{stays(3, 5, 1, 1, 3, 5, 2, 1), true},
		{stays(3, 5, 1, 1, 3, 5, 1, 2), true},
		{stays(3, 9, 9, 9, 4, 5, 1, 1, 4, 6, 0, 0, 4, 6, 1, 0, 4, 6, 1, 1), true},
		{stays(least, 0, 1, 1, -1, 0, 1, 1, 0, 1, 1, 1, greatest-1, greatest, 1, 1), true},
		{stays(3, 3, 1, 1), false},
		{stays(5, 3, 1, 1), false},
		{stays(0, 0, 0, 0), false},
		{stays(greatest, least, 1, 1), false},
		{stays(greatest, greatest, 1, 1), false},
		{stays(3, 5, 1, 1, 3, 5, 1, 1), false},
		{stays(4, 5, 1, 1, 3, 5, 1, 1), false},
		{stays(3, 6, 1, 1, 3, 5, 1, 1), false},
		{stays(3, 5, 2, 1, 3, 5, 1, 1), false},
		{stays(3, 5, 1, 2, 3, 5, 1, 1), false},
		{stays(3, 5, 1, 1, 6, 6, 1, 1), false},
		{stays(3, 3, 1, 1, 6, 9, 1, 1), false},
		{stays(3, 5, 1, 1, 6, 6, 1, 1, 7, 9, 1, 1), false},
		{stays(3, 5, 1, 1, 7, 9, 1, 1, 6, 9, 1, 1), false},
		{stays(3, 5, 1, 1, 7, 9, 1, 1, 7, 9, 1, 1, 8, 9, 1, 1), false},
		{stays(3, 5, 1, 1, 2, 9, 1, 1, 4, 9, 1, 1), false},
		{stays(0, 1, 1, 1, -1, 0, 1, 1), false},
		{stays(greatest-1, greatest, 1, 1, least, 0, 1, 1), false},
	} {
		if got := hist.Rising(x.l); got != x.want {
			t.Errorf("P8.1: Rising: %v: %v", x.l, got)
		}
	}
}

func TestAdd(t *testing.T) {
	for _, x := range []struct {
		l    []hist.Stay
		s    hist.Stay
		want []hist.Stay
	}{
		{nil, stay(3, 5, 1, 1), stays(3, 5, 1, 1)},
		{[]hist.Stay{}, stay(3, 5, 1, 1), stays(3, 5, 1, 1)},
		{nil, stay(3, 3, 1, 1), nil},
		{nil, stay(5, 3, 1, 1), nil},
		{stays(3, 5, 1, 1), stay(4, 4, 1, 1), stays(3, 5, 1, 1)},
		{stays(3, 5, 1, 1), stay(9, 1, 1, 1), stays(3, 5, 1, 1)},
		{stays(3, 5, 1, 1), stay(greatest, least, 1, 1), stays(3, 5, 1, 1)},
		{stays(7, 5, 1, 1, 3, 3, 1, 1), stay(4, 4, 1, 1), stays(7, 5, 1, 1, 3, 3, 1, 1)},
		// In front, between, behind.
		{stays(3, 5, 1, 1, 7, 9, 1, 1), stay(2, 9, 9, 9), stays(2, 9, 9, 9, 3, 5, 1, 1, 7, 9, 1, 1)},
		{stays(3, 5, 1, 1, 7, 9, 1, 1), stay(4, 20, 1, 1), stays(3, 5, 1, 1, 4, 20, 1, 1, 7, 9, 1, 1)},
		{stays(3, 5, 1, 1, 7, 9, 1, 1), stay(8, 9, 0, 0), stays(3, 5, 1, 1, 7, 9, 1, 1, 8, 9, 0, 0)},
		// The same in From, in From and To, in all but Status.
		{stays(3, 5, 1, 1, 3, 9, 1, 1), stay(3, 4, 2, 2), stays(3, 4, 2, 2, 3, 5, 1, 1, 3, 9, 1, 1)},
		{stays(3, 5, 1, 1, 3, 9, 1, 1), stay(3, 6, 0, 0), stays(3, 5, 1, 1, 3, 6, 0, 0, 3, 9, 1, 1)},
		{stays(3, 5, 1, 1, 3, 9, 1, 1), stay(3, 10, 0, 0), stays(3, 5, 1, 1, 3, 9, 1, 1, 3, 10, 0, 0)},
		{stays(3, 5, 1, 1, 3, 5, 3, 1), stay(3, 5, 2, 9), stays(3, 5, 1, 1, 3, 5, 2, 9, 3, 5, 3, 1)},
		{stays(3, 5, 1, 1, 3, 5, 1, 3), stay(3, 5, 1, 2), stays(3, 5, 1, 1, 3, 5, 1, 2, 3, 5, 1, 3)},
		// There already.
		{stays(3, 5, 1, 1), stay(3, 5, 1, 1), stays(3, 5, 1, 1, 3, 5, 1, 1)},
		{stays(2, 5, 1, 1, 3, 5, 1, 1, 4, 5, 1, 1), stay(3, 5, 1, 1), stays(2, 5, 1, 1, 3, 5, 1, 1, 3, 5, 1, 1, 4, 5, 1, 1)},
		// Rows that do not rise: it is the last one that is not above s that tells the place.
		{stays(7, 9, 1, 1, 3, 5, 1, 1), stay(4, 6, 1, 1), stays(7, 9, 1, 1, 3, 5, 1, 1, 4, 6, 1, 1)},
		{stays(7, 9, 1, 1, 3, 5, 1, 1, 8, 9, 1, 1), stay(4, 6, 1, 1), stays(7, 9, 1, 1, 3, 5, 1, 1, 4, 6, 1, 1, 8, 9, 1, 1)},
		{stays(1, 2, 1, 1, 7, 9, 1, 1, 3, 5, 1, 1, 8, 9, 1, 1, 6, 9, 1, 1), stay(4, 6, 1, 1), stays(1, 2, 1, 1, 7, 9, 1, 1, 3, 5, 1, 1, 4, 6, 1, 1, 8, 9, 1, 1, 6, 9, 1, 1)},
		{stays(3, 5, 1, 1, 7, 9, 1, 1, 3, 5, 1, 1, 9, 10, 1, 1), stay(3, 5, 1, 1), stays(3, 5, 1, 1, 7, 9, 1, 1, 3, 5, 1, 1, 3, 5, 1, 1, 9, 10, 1, 1)},
		{stays(9, 12, 1, 1, 7, 9, 1, 1), stay(3, 5, 1, 1), stays(3, 5, 1, 1, 9, 12, 1, 1, 7, 9, 1, 1)},
		{stays(5, 5, 1, 1, 3, 2, 1, 1), stay(4, 6, 1, 1), stays(5, 5, 1, 1, 3, 2, 1, 1, 4, 6, 1, 1)},
		{stays(4, 4, 1, 1, 9, 7, 1, 1), stay(4, 6, 1, 1), stays(4, 4, 1, 1, 4, 6, 1, 1, 9, 7, 1, 1)},
		// Numbers below 0, and those at both ends.
		{stays(-5, -3, 1, 1, 0, 2, 1, 1), stay(-1, 0, 1, 1), stays(-5, -3, 1, 1, -1, 0, 1, 1, 0, 2, 1, 1)},
		{stays(-5, -3, -2, -2), stay(-5, -3, -2, -3), stays(-5, -3, -2, -3, -5, -3, -2, -2)},
		{stays(-5, -3, 1, 1), stay(-3, -5, 1, 1), stays(-5, -3, 1, 1)},
		{stays(least+1, 0, 1, 1, 5, greatest, 1, 1), stay(least, greatest, greatest, greatest), stays(least, greatest, greatest, greatest, least+1, 0, 1, 1, 5, greatest, 1, 1)},
		{stays(least, 0, 1, 1, 5, greatest, 1, 1), stay(greatest-1, greatest, least, least), stays(least, 0, 1, 1, 5, greatest, 1, 1, greatest-1, greatest, least, least)},
		{stays(least, 0, 0, 0, greatest-1, greatest, 0, 0), stay(least, 0, greatest, least), stays(least, 0, 0, 0, least, 0, greatest, least, greatest-1, greatest, 0, 0)},
	} {
		if got := hist.Add(x.l, x.s); !slices.Equal(got, x.want) {
			t.Errorf("P8.1: Add: %v, %v: %v", x.l, x.s, got)
		}
	}
}

func TestCut(t *testing.T) {
	two := stays(2, 9, 1, 1, 3, 5, 2, 2)
	for _, x := range []struct {
		l    []hist.Stay
		by   []span.Span
		want []hist.Stay
	}{
		// By nothing, and of nothing.
		{nil, nil, nil},
		{nil, spans(0, 9), nil},
		{[]hist.Stay{}, spans(0, 9, 12, 15), nil},
		{two, nil, nil},
		{two, []span.Span{}, nil},
		// By spans that have no time, and of stays that have none.
		{two, spans(4, 4), nil},
		{two, spans(9, 2, 5, 5, 8, 3), nil},
		{two, spans(4, 4, 0, 3, 9, 1), stays(2, 3, 1, 1)},
		{stays(4, 4, 1, 1, 9, 2, 1, 1), spans(0, 20), nil},
		{stays(4, 4, 1, 1, 3, 5, 1, 1, 9, 2, 1, 1), spans(0, 20), stays(3, 5, 1, 1)},
		{stays(9, 2, 1, 1), spans(0, 3, 5, 6, 8, 12), nil},
		{stays(4, 4, 1, 1), spans(5, 3, 4, 4), nil},
		// By spans apart, at the edges, and beyond them.
		{stays(2, 9, 1, 1), spans(0, 3, 5, 6), stays(2, 3, 1, 1, 5, 6, 1, 1)},
		{stays(2, 9, 1, 1), spans(0, 2), nil},
		{stays(2, 9, 1, 1), spans(9, 12), nil},
		{stays(2, 9, 1, 1), spans(0, 1, 10, 12), nil},
		{stays(2, 9, 1, 1), spans(0, 2, 9, 12), nil},
		{stays(2, 9, 1, 1), spans(0, 3, 8, 12), stays(2, 3, 1, 1, 8, 9, 1, 1)},
		{stays(2, 9, 1, 1), spans(2, 9), stays(2, 9, 1, 1)},
		{stays(2, 9, 1, 1), spans(0, 20), stays(2, 9, 1, 1)},
		{stays(2, 9, 1, 1), spans(3, 8), stays(3, 8, 1, 1)},
		{stays(2, 9, 1, 1), spans(-5, 0, 0, 1, 3, 4, 6, 7, 9, 10, 12, 15), stays(3, 4, 1, 1, 6, 7, 1, 1)},
		// By spans that do not rise, that overlap, that touch.
		{stays(2, 9, 1, 1), spans(5, 6, 0, 3), stays(2, 3, 1, 1, 5, 6, 1, 1)},
		{stays(2, 9, 1, 1), spans(0, 5, 3, 7), stays(2, 7, 1, 1)},
		{stays(2, 9, 1, 1), spans(3, 5, 5, 7), stays(3, 7, 1, 1)},
		{stays(2, 9, 1, 1), spans(5, 7, 3, 5), stays(3, 7, 1, 1)},
		{stays(2, 9, 1, 1), spans(3, 8, 4, 5, 3, 8), stays(3, 8, 1, 1)},
		{two, spans(0, 4, 4, 20), two},
		{two, spans(5, 6, 0, 4, 4, 4), stays(2, 4, 1, 1, 3, 4, 2, 2, 5, 6, 1, 1)},
		{two, spans(4, 20, 12, 30), stays(4, 5, 2, 2, 4, 9, 1, 1)},
		// Several stays by one span, and those that are the same once they are cut.
		{stays(1, 5, 1, 1, 3, 8, 2, 1, 7, 9, 1, 1), spans(4, 8), stays(4, 5, 1, 1, 4, 8, 2, 1, 7, 8, 1, 1)},
		{stays(1, 5, 1, 1, 2, 6, 1, 1), spans(3, 4), stays(3, 4, 1, 1, 3, 4, 1, 1)},
		{stays(1, 5, 1, 1, 2, 6, 1, 1, 1, 5, 1, 1), spans(3, 4, 5, 7), stays(3, 4, 1, 1, 3, 4, 1, 1, 3, 4, 1, 1, 5, 6, 1, 1)},
		{stays(1, 5, 1, 2, 2, 6, 1, 1), spans(3, 4), stays(3, 4, 1, 1, 3, 4, 1, 2)},
		{stays(1, 5, 2, 1, 2, 6, 1, 2), spans(3, 4), stays(3, 4, 1, 2, 3, 4, 2, 1)},
		{stays(1, 7, 1, 1, 2, 6, 2, 2), spans(3, 9), stays(3, 6, 2, 2, 3, 7, 1, 1)},
		// Of a row that does not rise.
		{stays(7, 9, 1, 1, 1, 3, 1, 1, 4, 8, 1, 1), spans(0, 20), stays(1, 3, 1, 1, 4, 8, 1, 1, 7, 9, 1, 1)},
		{stays(3, 9, 2, 1, 1, 9, 1, 1), spans(5, 6, 1, 2), stays(1, 2, 1, 1, 5, 6, 1, 1, 5, 6, 2, 1)},
		// Numbers below 0, and those at both ends.
		{stays(-9, -3, 1, 1), spans(-5, 2, -20, -8), stays(-9, -8, 1, 1, -5, -3, 1, 1)},
		{stays(-9, 9, -1, -2), spans(-1, 1), stays(-1, 1, -1, -2)},
		{stays(least, greatest, least, greatest), spans(3, 5, -5, -3), stays(-5, -3, least, greatest, 3, 5, least, greatest)},
		{stays(3, 5, 1, 1), spans(least, greatest), stays(3, 5, 1, 1)},
		{stays(least, greatest, 1, 1), spans(least, greatest), stays(least, greatest, 1, 1)},
		{stays(least, greatest, 1, 1), spans(least, 0, 0, greatest), stays(least, greatest, 1, 1)},
		{stays(least, greatest, 1, 1), spans(greatest, least), nil},
		{stays(least, least+1, 1, 1, greatest-1, greatest, 1, 1), spans(least, greatest), stays(least, least+1, 1, 1, greatest-1, greatest, 1, 1)},
		{stays(least, least+1, 1, 1, greatest-1, greatest, 1, 1), spans(least+1, greatest-1), nil},
		{stays(greatest, greatest, 1, 1, greatest, least, 1, 1, least, least, 1, 1), spans(least, greatest), nil},
		{stays(9, api.Forever, 1, 1), spans(12, api.Forever), stays(12, api.Forever, 1, 1)},
	} {
		if got := hist.Cut(x.l, x.by); !slices.Equal(got, x.want) {
			t.Errorf("P8.2: Cut: %v, %v: %v", x.l, x.by, got)
		}
	}
}

func TestAfter(t *testing.T) {
	for _, x := range []struct {
		l    []hist.Stay
		t    int
		want []hist.Stay
	}{
		{nil, 0, nil},
		{[]hist.Stay{}, least, nil},
		{stays(2, 9, 1, 1), 8, stays(2, 9, 1, 1)},
		{stays(2, 9, 1, 1), 9, nil},
		{stays(2, 9, 1, 1), 10, nil},
		{stays(2, 9, 1, 1), 2, stays(2, 9, 1, 1)},
		{stays(2, 9, 1, 1), 0, stays(2, 9, 1, 1)},
		{stays(2, 9, 1, 1), -5, stays(2, 9, 1, 1)},
		{stays(2, 9, 1, 1, 3, 5, 2, 2), 4, stays(2, 9, 1, 1, 3, 5, 2, 2)},
		{stays(2, 9, 1, 1, 3, 5, 2, 2), 5, stays(2, 9, 1, 1)},
		{stays(2, 5, 1, 1, 3, 9, 2, 2), 5, stays(3, 9, 2, 2)},
		{stays(2, 5, 1, 1, 3, 4, 2, 2, 4, 6, 2, 2), 4, stays(2, 5, 1, 1, 4, 6, 2, 2)},
		{stays(2, 9, 1, 1, 3, 4, 1, 1, 4, 9, 1, 1), 6, stays(2, 9, 1, 1, 4, 9, 1, 1)},
		{stays(2, 9, 1, 1, 2, 9, 1, 1), 6, stays(2, 9, 1, 1, 2, 9, 1, 1)},
		// A row that does not rise keeps its order.
		{stays(7, 9, 1, 1, 2, 3, 1, 1, 1, 8, 1, 1, 4, 6, 1, 1), 5, stays(7, 9, 1, 1, 1, 8, 1, 1, 4, 6, 1, 1)},
		// It is To alone that is asked, of stays without time, too.
		{stays(7, 7, 1, 1), 6, stays(7, 7, 1, 1)},
		{stays(7, 7, 1, 1), 7, nil},
		{stays(9, 7, 1, 1, 3, 5, 1, 1), 6, stays(9, 7, 1, 1)},
		{stays(9, 7, 1, 1), 8, nil},
		// Numbers below 0, and those at both ends.
		{stays(-9, -3, 1, 1, -9, 0, 1, 1), -3, stays(-9, 0, 1, 1)},
		{stays(-9, -3, 1, 1, -9, 0, 1, 1), -4, stays(-9, -3, 1, 1, -9, 0, 1, 1)},
		{stays(-9, 0, 1, 1), 0, nil},
		{stays(least, least+1, 1, 1, 5, least, 1, 1), least, stays(least, least+1, 1, 1)},
		{stays(0, greatest, 1, 1), greatest, nil},
		{stays(0, greatest, 1, 1, 0, greatest-1, 1, 1), greatest - 1, stays(0, greatest, 1, 1)},
		{stays(0, api.Forever, 1, 1), api.Forever - 1, stays(0, api.Forever, 1, 1)},
		{stays(0, api.Forever, 1, 1), api.Forever, nil},
	} {
		if got := hist.After(x.l, x.t); !slices.Equal(got, x.want) {
			t.Errorf("P8.2: After: %v, %d: %v", x.l, x.t, got)
		}
	}
}

func TestLast(t *testing.T) {
	for _, x := range []struct {
		l    []hist.Stay
		want int
		is   bool
	}{
		{nil, 0, false},
		{[]hist.Stay{}, 0, false},
		{stays(20, 20, 1, 1), 0, false},
		{stays(20, 9, 1, 1), 0, false},
		{stays(0, 0, 1, 1), 0, false},
		{stays(20, 20, 1, 1, 30, 25, 1, 1, -5, -5, 1, 1), 0, false},
		{stays(greatest, greatest, 1, 1, greatest, least, 1, 1, least, least, 1, 1), 0, false},
		{stays(2, 9, 1, 1), 9, true},
		{stays(2, 9, 1, 1, 3, 5, 2, 2), 9, true},
		{stays(2, 5, 1, 1, 3, 9, 2, 2), 9, true},
		{stays(2, 5, 1, 1, 3, 9, 2, 2, 4, 7, 1, 1), 9, true},
		{stays(2, 9, 1, 1, 4, 9, 1, 1), 9, true},
		{stays(7, 8, 1, 1, 2, 9, 1, 1, 1, 3, 1, 1), 9, true},
		{stays(2, 9, 1, 1, 20, 20, 1, 1), 9, true},
		{stays(20, 20, 1, 1, 2, 9, 1, 1), 9, true},
		{stays(30, 20, 1, 1, 2, 9, 1, 1, 25, 12, 1, 1), 9, true},
		{stays(0, 1, 0, 0), 1, true},
		// Numbers below 0: a 0 that no stay has is not told for them.
		{stays(-9, -3, 1, 1), -3, true},
		{stays(-9, -3, 1, 1, -20, -5, 1, 1), -3, true},
		{stays(-9, -5, 1, 1, -20, -3, 1, 1), -3, true},
		{stays(-9, 0, 1, 1), 0, true},
		{stays(-9, -3, 1, 1, 7, 7, 1, 1), -3, true},
		{stays(least, least+1, 1, 1), least + 1, true},
		{stays(least, least+1, 1, 1, greatest, greatest, 1, 1), least + 1, true},
		{stays(least, greatest, 1, 1, 3, 5, 1, 1), greatest, true},
		{stays(3, api.Forever, 1, 1), api.Forever, true},
	} {
		if got, is := hist.Last(x.l); got != x.want || is != x.is {
			t.Errorf("P8.2: Last: %v: %d, %v", x.l, got, is)
		}
	}
}

func TestSame(t *testing.T) {
	for _, x := range []struct {
		a, b []hist.Stay
		want bool
	}{
		{nil, nil, true},
		{nil, []hist.Stay{}, true},
		{stays(1, 2, 3, 4), stays(1, 2, 3, 4), true},
		{stays(7, 9, 1, 1, 3, 5, 1, 1), stays(7, 9, 1, 1, 3, 5, 1, 1), true},
		{stays(5, 3, 1, 1), stays(5, 3, 1, 1), true},
		{stays(least, greatest, least, greatest), stays(least, greatest, least, greatest), true},
		{nil, stays(1, 2, 3, 4), false},
		{nil, stays(0, 0, 0, 0), false},
		{stays(1, 2, 3, 4), stays(0, 2, 3, 4), false},
		{stays(1, 2, 3, 4), stays(1, 3, 3, 4), false},
		{stays(1, 2, 3, 4), stays(1, 2, 4, 4), false},
		{stays(1, 2, 3, 4), stays(1, 2, 3, 3), false},
		{stays(1, 2, 3, 4), stays(1, 2, 4, 3), false},
		{stays(1, 2, 3, 4), stays(1, 2, 3, -4), false},
		{stays(1, 2, 3, 4), stays(1, 2, 3, 4, 1, 2, 3, 4), false},
		{stays(1, 2, 3, 4), stays(1, 2, 3, 4, 5, 6, 7, 8), false},
		{stays(5, 6, 7, 8), stays(1, 2, 3, 4, 5, 6, 7, 8), false},
		{stays(1, 2, 3, 4, 5, 6, 7, 8), stays(5, 6, 7, 8, 1, 2, 3, 4), false},
		{stays(1, 2, 3, 4, 5, 6, 7, 8), stays(1, 2, 3, 4, 5, 6, 7, 9), false},
		{stays(1, 2, 3, 4, 5, 6, 7, 8, 9, 10, 1, 1), stays(1, 2, 3, 4, 5, 6, 6, 8, 9, 10, 1, 1), false},
		{stays(1, 5, 1, 1), stays(1, 3, 1, 1, 3, 5, 1, 1), false},
		{stays(5, 3, 1, 1), stays(4, 4, 1, 1), false},
		{stays(4, 4, 1, 1), nil, false},
		{stays(1, 2, 3, least), stays(1, 2, 3, greatest), false},
	} {
		if got := hist.Same(x.a, x.b); got != x.want {
			t.Errorf("P8.2: Same: %v, %v: %v", x.a, x.b, got)
		}
		if got := hist.Same(x.b, x.a); got != x.want {
			t.Errorf("P8.2: Same: %v, %v: %v", x.b, x.a, got)
		}
	}
}

// checkRow holds what is told of one row, and of one with one more stay, against the model, and against what follows.
func checkRow(t *testing.T, l []hist.Stay, s hist.Stay) {
	t.Helper()
	rising := hist.Rising(l)
	if rising != rises(l) {
		t.Fatalf("P8.1: Rising: %v: %v", l, rising)
	}
	got := hist.Add(l, s)
	if !slices.Equal(got, added(l, s)) {
		t.Fatalf("P8.1: Add: %v, %v: %v", l, s, got)
	}
	if rising && (s.None() || !slices.Contains(l, s)) && !hist.Rising(got) {
		t.Fatalf("P8.3: %v rises, but with %v it is %v", l, s, got)
	}
	if rising && !s.None() && slices.Contains(l, s) && hist.Rising(got) {
		t.Fatalf("P8.3: %v rises with %v, that was there: %v", l, s, got)
	}
	if !hist.Same(l, slices.Clone(l)) || hist.Same(l, append(slices.Clone(l), s)) {
		t.Fatalf("P8.2: Same: %v", l)
	}
	to, is := hist.Last(l)
	if wantTo, want := last(l); to != wantTo || is != want {
		t.Fatalf("P8.2: Last: %v: %d, %v", l, to, is)
	}
	for _, at := range []int{s.From, s.To, s.To - 1, s.To + 1} {
		if got := hist.After(l, at); !slices.Equal(got, after(l, at)) {
			t.Fatalf("P8.2: After: %v, %d: %v", l, at, got)
		}
	}
}

// checkCut holds a row that is cut against the model, and against what follows.
func checkCut(t *testing.T, x ticks, l []hist.Stay, by []span.Span) {
	t.Helper()
	got := hist.Cut(l, by)
	if !slices.Equal(got, x.cut(l, by)) {
		t.Fatalf("P8.2: Cut: %v, %v: %v", l, by, got)
	}
	if !slices.Equal(got, sorted(got)) {
		t.Fatalf("P8.2: Cut is not by Cmp: %v, %v: %v", l, by, got)
	}
	for _, s := range got {
		if s.None() || len(span.Less([]span.Span{s.Span}, by)) > 0 {
			t.Fatalf("P8.3: Cut: %v, %v: %v", l, by, s)
		}
	}
	if again := hist.Cut(got, by); !hist.Same(again, got) {
		t.Fatalf("P8.3: Cut again: %v, %v: %v, and then %v", l, by, got, again)
	}
}

func TestEachShortRow(t *testing.T) {
	all := small().stays(1, 2)
	for _, l := range rows(2, all) {
		for _, s := range all {
			checkRow(t, l, s)
		}
	}
	all = wide().stays(1)
	for _, l := range rows(1, all) {
		for _, s := range all {
			checkRow(t, l, s)
		}
	}
}

func TestEachShortCut(t *testing.T) {
	for _, by := range rows(2, small().spans()) {
		for _, l := range rows(2, small().stays(1)) {
			checkCut(t, small(), l, by)
		}
		for _, l := range rows(1, small().stays(1, 2)) {
			checkCut(t, small(), l, by)
		}
	}
	for _, by := range rows(1, wide().spans()) {
		for _, l := range rows(1, wide().stays(1)) {
			checkCut(t, wide(), l, by)
		}
	}
}

func TestRowsByChance(t *testing.T) {
	r := rand.New(rand.NewPCG(8, 1))
	for range 4000 {
		for _, x := range []ticks{wide(), grid(9), grid(24), grid(60)} {
			l, by := x.someStays(r, 12), x.row(r, 12)
			s := hist.Stay{Span: x.span(r), N: r.IntN(3), Status: r.IntN(3)}
			if len(l) > 0 && r.IntN(4) == 0 {
				s = l[r.IntN(len(l))]
			}
			checkRow(t, l, s)
			checkRow(t, sorted(l), s)
			checkCut(t, x, l, by)
		}
	}
}

// TestRowsThatAreBuilt adds stays, one by one, in any order, from an empty row on.
func TestRowsThatAreBuilt(t *testing.T) {
	r := rand.New(rand.NewPCG(8, 3))
	for range 2000 {
		given := grid(9).someStays(r, 14)
		var l, want []hist.Stay
		for _, s := range given {
			was := slices.Contains(l, s)
			l = hist.Add(l, s)
			if !s.None() {
				want = append(want, s)
			}
			if s.None() || !was {
				continue
			}
			if hist.Rising(l) {
				t.Fatalf("P8.3: %v rises, %v twice in it", l, s)
			}
		}
		if !hist.Same(l, sorted(want)) {
			t.Fatalf("P8.1: Add, one by one: %v: %v", given, l)
		}
		if once := slices.Compact(sorted(want)); hist.Rising(l) != (len(once) == len(want)) {
			t.Fatalf("P8.3: Rising: %v: %v", l, hist.Rising(l))
		}
	}
}

// TestCutFollows asks of each piece its first time and its last one.
func TestCutFollows(t *testing.T) {
	for _, x := range []struct {
		l  []hist.Stay
		by []span.Span
	}{
		{stays(2, 9, 1, 1), spans(0, 3, 5, 6)},
		{stays(2, 9, 1, 1, 3, 5, 2, 2), spans(4, 8, 3, 4)},
		{stays(1, 5, 1, 1, 2, 6, 1, 1), spans(3, 4)},
		{stays(7, 9, 1, 1, 1, 3, 1, 1), spans(8, 12, 0, 2)},
		{stays(4, 4, 1, 1, 1, 3, 1, 1), spans(2, 2, 2, 9)},
		{stays(least, greatest, 1, 1), spans(least, -1, 1, greatest)},
		{stays(1, 5, 1, 1), nil},
	} {
		cut := hist.Cut(x.l, x.by)
		if again := hist.Cut(cut, x.by); !slices.Equal(again, cut) {
			t.Errorf("P8.3: Cut again: %v, %v: %v, and then %v", x.l, x.by, cut, again)
		}
		for _, s := range cut {
			for _, at := range []int{s.From, s.To - 1} {
				if !span.Has(x.by, at) {
					t.Errorf("P8.3: Cut: %v, %v: %v has %d", x.l, x.by, s, at)
				}
			}
		}
	}
}

func TestExample(t *testing.T) {
	got := hist.Cut([]hist.Stay{stay(2, 9, 1, 1)}, []span.Span{{From: 0, To: 3}, {From: 5, To: 6}})
	if !hist.Same(got, []hist.Stay{stay(2, 3, 1, 1), stay(5, 6, 1, 1)}) {
		t.Errorf("P8.2: the chapter's example: %v", got)
	}
}

// TestManyStays has rows that are too long for anyone who holds each stay against each span.
func TestManyStays(t *testing.T) {
	const many = 1 << 18
	var l []hist.Stay
	var by, falling []span.Span
	for k := range many {
		l = append(l, stay(4*k, 4*k+3, k, 1))
		by = append(by, span.Span{From: 4*k + 1, To: 4*k + 2})
		falling = append(falling, span.Span{From: 4 * (many - k), To: 4*(many-k) + 9})
	}
	fallen := slices.Clone(l)
	slices.Reverse(fallen)
	for _, x := range []struct {
		what  string
		got   []hist.Stay
		count int
		first hist.Stay
	}{
		{"P8.2: Cut, each by a span", hist.Cut(l, by), many, stay(1, 2, 0, 1)},
		{"P8.2: Cut of a row that falls", hist.Cut(fallen, by), many, stay(1, 2, 0, 1)},
		{"P8.2: Cut by one over all", hist.Cut(fallen, spans(0, 4*many)), many, stay(0, 3, 0, 1)},
		{"P8.2: Cut by those that overlap", hist.Cut(l, falling), many - 1, stay(4, 7, 1, 1)},
		{"P8.2: Cut of one over all", hist.Cut(stays(0, 4*many, 7, 2), by), many, stay(1, 2, 7, 2)},
		{"P8.2: Cut of the last one", hist.Cut(l[many-1:], by), 1, stay(4*many-3, 4*many-2, many-1, 1)},
		{"P8.2: After", hist.After(fallen, 4*many-1-4), 1, stay(4*many-4, 4*many-1, many-1, 1)},
		{"P8.1: Add in front", hist.Add(l, stay(-1, 0, 1, 1)), many + 1, stay(-1, 0, 1, 1)},
		{"P8.1: Add behind", hist.Add(l, stay(4*many, 4*many+1, 1, 1)), many + 1, stay(0, 3, 0, 1)},
	} {
		if len(x.got) != x.count || x.got[0] != x.first {
			t.Errorf("%s, of many stays: %d stays", x.what, len(x.got))
		}
	}
	if !hist.Rising(l) || hist.Rising(fallen) || hist.Rising(append(slices.Clone(l), l[many-1])) {
		t.Error("P8.1: Rising of many stays")
	}
	if to, is := hist.Last(fallen); to != 4*many-1 || !is {
		t.Errorf("P8.2: Last of many stays: %d, %v", to, is)
	}
}

// calls are all those that tell a row.
func calls() map[string]func(l []hist.Stay, by []span.Span) []hist.Stay {
	return map[string]func(l []hist.Stay, by []span.Span) []hist.Stay{
		"Add in front": func(l []hist.Stay, by []span.Span) []hist.Stay { return hist.Add(l, stay(-9, 3, 1, 1)) },
		"Add between":  func(l []hist.Stay, by []span.Span) []hist.Stay { return hist.Add(l, stay(4, 6, 1, 1)) },
		"Add behind":   func(l []hist.Stay, by []span.Span) []hist.Stay { return hist.Add(l, stay(90, 99, 1, 1)) },
		"Add no time":  func(l []hist.Stay, by []span.Span) []hist.Stay { return hist.Add(l, stay(4, 4, 1, 1)) },
		"Cut":          hist.Cut,
		"Cut by all":   func(l []hist.Stay, by []span.Span) []hist.Stay { return hist.Cut(l, spans(least, greatest)) },
		"After all":    func(l []hist.Stay, by []span.Span) []hist.Stay { return hist.After(l, least) },
		"After some":   func(l []hist.Stay, by []span.Span) []hist.Stay { return hist.After(l, 5) },
	}
}

// given are rows of all kinds: those to which a call has nothing to do are the ones that a lazy answer would hand back.
func given() [][]hist.Stay {
	return [][]hist.Stay{nil, {}, stays(5, 3, 1, 1), stays(1, 9, 1, 1), stays(1, 9, 1, 1, 3, 5, 1, 1, 7, 9, 2, 1), stays(7, 9, 1, 1, 3, 5, 1, 1), stays(3, 5, 2, 2, 3, 5, 1, 1, 2, 2, 1, 1, 3, 5, 1, 1), stays(1, 3, 1, 1, 6, 12, 1, 1, 20, 30, 1, 1)}
}

func givenSpans() [][]span.Span {
	return [][]span.Span{nil, {}, spans(5, 3), spans(0, 40), spans(7, 8, 1, 3, 2, 4), spans(4, 4, 3, 5, 5, 9)}
}

func TestGivenStays(t *testing.T) {
	for what, call := range calls() {
		for _, l := range given() {
			for _, by := range givenSpans() {
				kept, keptBy := slices.Clone(l), slices.Clone(by)
				call(l, by)
				hist.Rising(l)
				hist.Last(l)
				hist.Same(l, kept)
				if !slices.Equal(l, kept) || !slices.Equal(by, keptBy) {
					t.Errorf("R5: %s: %v, %v became %v, %v", what, kept, keptBy, l, by)
				}
			}
		}
	}
}

// TestGivenStaysBehindItsEnd has rows with room behind them, in which others stand.
func TestGivenStaysBehindItsEnd(t *testing.T) {
	for what, call := range calls() {
		for _, row := range given() {
			for _, rowBy := range givenSpans() {
				l := append(slices.Clone(row), stays(70, 80, 7, 7, 60, 50, 6, 6, 40, 45, 5, 5)...)
				by := append(slices.Clone(rowBy), spans(71, 81, 61, 51, 41, 46)...)
				kept, keptBy := slices.Clone(l), slices.Clone(by)
				got := call(l[:len(row)], by[:len(rowBy)])
				_ = append(got, stays(0, 100, 1, 1, 200, 300, 1, 1)...)
				if !slices.Equal(l, kept) || !slices.Equal(by, keptBy) {
					t.Errorf("R5: %s: %v, %v became %v, %v", what, kept, keptBy, l, by)
				}
			}
		}
	}
}

func TestToldIsTheCallersOwn(t *testing.T) {
	for what, call := range calls() {
		for _, row := range given() {
			for _, by := range givenSpans() {
				l := slices.Clone(row)
				first, second := call(l, by), call(l, by)
				kept := slices.Clone(second)
				for i := range first {
					first[i] = stay(-7, 77, 7, 7)
				}
				if !slices.Equal(l, row) || !slices.Equal(second, kept) {
					t.Errorf("R6: %s: written into what was told of %v: %v, %v", what, row, l, second)
				}
				for i := range l {
					l[i] = stay(-8, 88, 8, 8)
				}
				if !slices.Equal(second, kept) {
					t.Errorf("R6: %s: written into what was given, %v: %v", what, row, second)
				}
			}
		}
	}
}

func TestToldAgain(t *testing.T) {
	r := rand.New(rand.NewPCG(8, 7))
	for range 500 {
		l, by := grid(24).someStays(r, 9), grid(24).row(r, 9)
		shuffled := slices.Clone(by)
		r.Shuffle(len(shuffled), func(i, k int) { shuffled[i], shuffled[k] = shuffled[k], shuffled[i] })
		// With room behind them, and without: no answer hangs on it.
		roomy := append(slices.Clone(l), stays(1, 2, 3, 4, 5, 6, 7, 8)...)[:len(l)]
		for what, call := range calls() {
			first, again := fmt.Sprint(call(l, by)), fmt.Sprint(call(roomy, shuffled))
			if first != again {
				t.Fatalf("R7: %s: %v, %v: %s, and then %s", what, l, by, first, again)
			}
		}
	}
}
