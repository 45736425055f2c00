package span_test

import (
	"fmt"
	"math"
	"math/rand/v2"
	"slices"
	"testing"

	"afterglow/api"
	"afterglow/span"
)

const (
	least    = math.MinInt
	greatest = math.MaxInt
)

// row is the spans from each number up to the one behind it.
func row(l ...int) []span.Span {
	var spans []span.Span
	for k := 0; k+1 < len(l); k += 2 {
		spans = append(spans, span.Span{From: l[k], To: l[k+1]})
	}
	return spans
}

// ticks are numbers, rising. The model below knows spans only from one of these up to another one, and tells them by their cells: the stretches from a tick up to the next one.
type ticks []int

func small() ticks { return ticks{0, 1, 2, 3} }

// wide are the numbers at both ends, those around 0, and those at which there are no times any more.
func wide() ticks {
	return ticks{least, least + 1, -2, -1, 0, 1, 2, api.Forever - 1, api.Forever, greatest - 1, greatest}
}

// spans are all those from one tick up to another one, those that have no time among them.
func (x ticks) spans() []span.Span {
	var l []span.Span
	for _, from := range x {
		for _, to := range x {
			l = append(l, span.Span{From: from, To: to})
		}
	}
	return l
}

// rows are all rows of up to most such spans.
func (x ticks) rows(most int) [][]span.Span {
	all := [][]span.Span{nil}
	longest := all
	for range most {
		var longer [][]span.Span
		for _, l := range longest {
			for _, s := range x.spans() {
				longer = append(longer, append(slices.Clone(l), s))
			}
		}
		all = append(all, longer...)
		longest = longer
	}
	return all
}

// row is one of up to most such spans, by chance: long ones, or short ones, so that there are many gaps.
func (x ticks) row(r *rand.Rand, most int) []span.Span {
	long := 1 + r.IntN(len(x))
	var l []span.Span
	for range r.IntN(most + 1) {
		from := r.IntN(len(x))
		to := min(max(from+r.IntN(2*long)-long/2, 0), len(x)-1)
		l = append(l, span.Span{From: x[from], To: x[to]})
	}
	return l
}

// cells: of each cell, has some span of l its times?
func (x ticks) cells(l []span.Span) []bool {
	in := make([]bool, len(x)-1)
	for i := range in {
		for _, s := range l {
			in[i] = in[i] || s.From <= x[i] && x[i+1] <= s.To
		}
	}
	return in
}

// told is the cells that are in, as spans that rise and do not touch: one for each run of them.
func (x ticks) told(in []bool) []span.Span {
	var l []span.Span
	for i := range in {
		if in[i] && (i == 0 || !in[i-1]) {
			l = append(l, span.Span{From: x[i]})
		}
		if in[i] {
			l[len(l)-1].To = x[i+1]
		}
	}
	return l
}

func (x ticks) norm(l []span.Span) []span.Span { return x.told(x.cells(l)) }

func (x ticks) meet(a, b []span.Span) []span.Span {
	in, other := x.cells(a), x.cells(b)
	for i := range in {
		in[i] = in[i] && other[i]
	}
	return x.told(in)
}

func (x ticks) less(a, b []span.Span) []span.Span {
	in, other := x.cells(a), x.cells(b)
	for i := range in {
		in[i] = in[i] && !other[i]
	}
	return x.told(in)
}

func TestNone(t *testing.T) {
	for _, x := range []struct {
		from, to int
		want     bool
	}{
		{3, 5, false}, {3, 4, false}, {3, 3, true}, {3, 2, true}, {3, -9, true},
		{0, 0, true}, {0, 1, false}, {1, 0, true}, {-1, 0, false}, {0, -1, true}, {-5, -3, false}, {-3, -5, true}, {-3, -3, true}, {-1, 1, false},
		{least, greatest, false}, {greatest, least, true}, {least, least, true}, {greatest, greatest, true},
		{least, least + 1, false}, {least + 1, least, true}, {greatest - 1, greatest, false}, {greatest, greatest - 1, true},
		{least, 0, false}, {0, least, true}, {0, greatest, false}, {greatest, 0, true}, {-1, greatest, false}, {least, 1, false},
		{0, api.Forever, false}, {api.Forever, api.Forever, true},
	} {
		if got := (span.Span{From: x.from, To: x.to}).None(); got != x.want {
			t.Errorf("P7.1: None of %d to %d: %v", x.from, x.to, got)
		}
	}
	if !(span.Span{}).None() {
		t.Error("P7.1: None of the zero span")
	}
}

func TestSpanHas(t *testing.T) {
	for _, x := range []struct {
		from, to int
		in, out  []int
	}{
		{3, 5, []int{3, 4}, []int{2, 5, 6, 0, -3, least, greatest}},
		{3, 4, []int{3}, []int{2, 4}},
		{3, 3, nil, []int{2, 3, 4}},
		{5, 3, nil, []int{2, 3, 4, 5, 6}},
		{-5, -3, []int{-5, -4}, []int{-6, -3, 5, 4, 0}},
		{-1, 1, []int{-1, 0}, []int{-2, 1}},
		{least, greatest, []int{least, least + 1, -1, 0, 1, greatest - 1}, []int{greatest}},
		{greatest, least, nil, []int{least, least + 1, 0, greatest - 1, greatest}},
		{least, least + 1, []int{least}, []int{least + 1, 0, greatest}},
		{greatest - 1, greatest, []int{greatest - 1}, []int{greatest - 2, greatest, least}},
		{greatest, greatest, nil, []int{greatest - 1, greatest, least}},
		{least, least, nil, []int{least, least + 1, greatest}},
		{9, api.Forever, []int{9, api.Forever - 1}, []int{8, api.Forever, api.Forever + 1}},
	} {
		s := span.Span{From: x.from, To: x.to}
		for _, at := range x.in {
			if !s.Has(at) {
				t.Errorf("P7.1: Has: %d to %d has not %d", x.from, x.to, at)
			}
		}
		for _, at := range x.out {
			if s.Has(at) {
				t.Errorf("P7.1: Has: %d to %d has %d", x.from, x.to, at)
			}
		}
	}
}

func TestSpanMeet(t *testing.T) {
	for _, x := range []struct{ from, to, from2, to2, wantFrom, wantTo int }{
		{3, 5, 4, 9, 4, 5},
		{3, 9, 4, 5, 4, 5},
		{3, 5, 3, 5, 3, 5},
		{3, 5, 3, 9, 3, 5},
		{3, 9, 5, 9, 5, 9},
		{3, 5, 5, 9, 5, 5},
		{3, 5, 7, 9, 7, 5},
		{3, 5, 4, 4, 4, 4},
		{3, 5, 9, 1, 9, 1},
		{3, 5, 4, 1, 4, 1},
		{5, 3, 3, 5, 5, 3},
		{5, 3, 9, 1, 9, 1},
		{-9, -3, -5, 2, -5, -3},
		{-9, 9, -5, -3, -5, -3},
		{least, greatest, 3, 5, 3, 5},
		{least, greatest, least, greatest, least, greatest},
		{least, 0, -1, greatest, -1, 0},
		{least, 0, 0, greatest, 0, 0},
		{least, -1, 1, greatest, 1, -1},
		{greatest, least, 3, 5, greatest, least},
		{least, least, least, 5, least, least},
		{greatest, greatest, 3, greatest, greatest, greatest},
	} {
		s, o, want := span.Span{From: x.from, To: x.to}, span.Span{From: x.from2, To: x.to2}, span.Span{From: x.wantFrom, To: x.wantTo}
		if got := s.Meet(o); got != want {
			t.Errorf("P7.1: Meet: %v, %v: %v", s, o, got)
		}
		if got := o.Meet(s); got != want {
			t.Errorf("P7.1: Meet: %v, %v: %v", o, s, got)
		}
	}
}

// TestSpansByTheirTimes holds the methods against the times that a span has, one by one.
func TestSpansByTheirTimes(t *testing.T) {
	has := func(s span.Span, at int) bool { return s.From <= at && at < s.To }
	for _, s := range wide().spans() {
		some := false
		for _, at := range wide() {
			some = some || has(s, at)
			if s.Has(at) != has(s, at) {
				t.Fatalf("P7.1: Has: %v, %d: %v", s, at, s.Has(at))
			}
		}
		if s.None() == some {
			t.Fatalf("P7.1: None: %v: %v", s, s.None())
		}
		for _, o := range wide().spans() {
			m := s.Meet(o)
			if m.From != s.From && m.From != o.From || m.From < s.From || m.From < o.From || m.To != s.To && m.To != o.To || m.To > s.To || m.To > o.To {
				t.Fatalf("P7.1: Meet: %v, %v: %v", s, o, m)
			}
			for _, at := range wide() {
				if m.Has(at) != (has(s, at) && has(o, at)) {
					t.Fatalf("P7.1: Meet: %v, %v: %v, at %d", s, o, m, at)
				}
			}
		}
	}
}

// orders are the row in every order.
func orders(l []span.Span) [][]span.Span {
	if len(l) == 0 {
		return [][]span.Span{nil}
	}
	var all [][]span.Span
	for i := range l {
		for _, rest := range orders(slices.Delete(slices.Clone(l), i, i+1)) {
			all = append(all, append(rest, l[i]))
		}
	}
	return all
}

func TestNorm(t *testing.T) {
	for _, x := range []struct{ given, want []span.Span }{
		{nil, nil},
		{[]span.Span{}, nil},
		{row(0, 0), nil},
		{row(5, 1), nil},
		{row(5, 1, 3, 3, greatest, least), nil},
		{row(3, 5), row(3, 5)},
		{row(3, 5, 1, 3, 4, 4), row(1, 5)},
		{row(3, 5, 1, 2), row(1, 2, 3, 5)},
		{row(3, 5, 3, 3), row(3, 5)},
		{row(3, 5, 5, 5), row(3, 5)},
		{row(3, 5, 7, 7, 8, 9), row(3, 5, 8, 9)},
		{row(3, 5, 5, 3, 9, 1), row(3, 5)},
		{row(1, 3, 9, 2, 4, 5), row(1, 3, 4, 5)},
		{row(1, 3, 3, 5), row(1, 5)},
		{row(1, 3, 3, 5, 5, 9), row(1, 9)},
		{row(1, 3, 2, 5), row(1, 5)},
		{row(1, 3, 4, 5), row(1, 3, 4, 5)},
		{row(1, 3, 1, 3, 1, 3), row(1, 3)},
		{row(1, 9, 3, 5), row(1, 9)},
		{row(1, 9, 1, 5), row(1, 9)},
		{row(1, 9, 5, 9), row(1, 9)},
		{row(1, 9, 2, 3, 6, 7), row(1, 9)},
		{row(1, 9, 2, 3, 8, 12), row(1, 12)},
		{row(1, 9, 2, 8, 9, 10), row(1, 10)},
		{row(1, 9, 2, 8, 10, 11), row(1, 9, 10, 11)},
		{row(1, 2, 3, 4, 2, 3, 5, 6), row(1, 4, 5, 6)},
		{row(-9, -3, -5, 2), row(-9, 2)},
		{row(-9, -3, -3, 0, 1, 2), row(-9, 0, 1, 2)},
		{row(-1, 0, 1, 2), row(-1, 0, 1, 2)},
		{row(least, greatest), row(least, greatest)},
		{row(least, greatest, 3, 5, greatest, least), row(least, greatest)},
		{row(least, 0, 0, greatest), row(least, greatest)},
		{row(least, -1, 1, greatest), row(least, -1, 1, greatest)},
		{row(least, least+1, greatest-1, greatest), row(least, least+1, greatest-1, greatest)},
		{row(least, least, greatest, greatest), nil},
		{row(9, api.Forever, 3, 5), row(3, 5, 9, api.Forever)},
	} {
		for _, l := range orders(x.given) {
			if got := span.Norm(l); !slices.Equal(got, x.want) {
				t.Errorf("P7.2: Norm: %v: %v", l, got)
			}
		}
	}
}

func TestJoin(t *testing.T) {
	for _, x := range []struct {
		given [][]span.Span
		want  []span.Span
	}{
		{nil, nil},
		{[][]span.Span{nil}, nil},
		{[][]span.Span{nil, {}, nil}, nil},
		{[][]span.Span{row(5, 1), nil, row(3, 3)}, nil},
		{[][]span.Span{row(3, 5)}, row(3, 5)},
		{[][]span.Span{row(3, 5, 1, 3, 4, 4)}, row(1, 5)},
		{[][]span.Span{nil, row(3, 5), nil}, row(3, 5)},
		{[][]span.Span{row(3, 5), row(3, 5)}, row(3, 5)},
		{[][]span.Span{row(1, 2), row(4, 5), row(2, 4)}, row(1, 5)},
		{[][]span.Span{row(1, 2, 4, 5), row(2, 4)}, row(1, 5)},
		{[][]span.Span{row(1, 2, 5, 6), row(3, 4, 7, 8)}, row(1, 2, 3, 4, 5, 6, 7, 8)},
		{[][]span.Span{row(7, 8, 3, 4), row(5, 6, 1, 2)}, row(1, 2, 3, 4, 5, 6, 7, 8)},
		{[][]span.Span{row(1, 9), row(2, 3, 4, 5), row(8, 12, 0, 1)}, row(0, 12)},
		{[][]span.Span{row(-9, -3), row(-3, 2)}, row(-9, 2)},
		{[][]span.Span{row(least, 0), row(0, greatest), row(greatest, least)}, row(least, greatest)},
		{[][]span.Span{row(1, 2), row(9, 1), row(5, 6)}, row(1, 2, 5, 6)},
	} {
		if got := span.Join(x.given...); !slices.Equal(got, x.want) {
			t.Errorf("P7.2: Join: %v: %v", x.given, got)
		}
		slices.Reverse(x.given)
		if got := span.Join(x.given...); !slices.Equal(got, x.want) {
			t.Errorf("P7.2: Join: %v: %v", x.given, got)
		}
	}
	if got := span.Join(); len(got) > 0 {
		t.Errorf("P7.2: Join of no rows: %v", got)
	}
	if got := span.Join(row(1, 2), row(2, 3)); !slices.Equal(got, row(1, 3)) {
		t.Errorf("P7.2: Join, one by one: %v", got)
	}
}

func TestMeet(t *testing.T) {
	for _, x := range []struct{ a, b, want []span.Span }{
		{nil, nil, nil},
		{nil, row(3, 5), nil},
		{[]span.Span{}, row(3, 5, 7, 9), nil},
		{row(5, 3), row(1, 9), nil},
		{row(3, 3), row(1, 9), nil},
		{row(1, 5, 7, 9), row(3, 8), row(3, 5, 7, 8)},
		{row(1, 5), row(5, 8), nil},
		{row(1, 5), row(6, 8), nil},
		{row(1, 5, 4, 9), row(2, 6), row(2, 6)},
		{row(1, 3, 3, 5), row(2, 4), row(2, 4)},
		{row(1, 9), row(2, 3, 4, 5, 6, 7), row(2, 3, 4, 5, 6, 7)},
		{row(1, 9), row(2, 3, 3, 5, 6, 7), row(2, 5, 6, 7)},
		{row(3, 7), row(0, 1, 2, 4, 5, 6, 6, 12, 14, 15), row(3, 4, 5, 7)},
		{row(7, 9, 1, 5), row(8, 12, 3, 8), row(3, 5, 7, 9)},
		{row(6, 7, 2, 3, 4, 5), row(1, 9), row(2, 3, 4, 5, 6, 7)},
		{row(1, 5, 5, 1), row(3, 9, 9, 3), row(3, 5)},
		{row(1, 2, 3, 4, 5, 6), row(2, 3, 4, 5, 6, 7), nil},
		{row(1, 3, 5, 7), row(2, 6, 6, 9), row(2, 3, 5, 7)},
		{row(1, 5, 8, 9), row(3, 5, 8, 12), row(3, 5, 8, 9)},
		{row(-9, -3), row(-5, 2), row(-5, -3)},
		{row(least, greatest), row(3, 5, -5, -3), row(-5, -3, 3, 5)},
		{row(least, greatest), row(least, greatest), row(least, greatest)},
		{row(least, 0, 1, greatest), row(-1, 2), row(-1, 0, 1, 2)},
		{row(least, least+1), row(greatest-1, greatest), nil},
		{row(least, least+1, greatest-1, greatest), row(least, greatest), row(least, least+1, greatest-1, greatest)},
	} {
		if got := span.Meet(x.a, x.b); !slices.Equal(got, x.want) {
			t.Errorf("P7.2: Meet: %v, %v: %v", x.a, x.b, got)
		}
		if got := span.Meet(x.b, x.a); !slices.Equal(got, x.want) {
			t.Errorf("P7.2: Meet: %v, %v: %v", x.b, x.a, got)
		}
	}
}

func TestLess(t *testing.T) {
	for _, x := range []struct{ a, b, want []span.Span }{
		{nil, nil, nil},
		{nil, row(3, 5), nil},
		{[]span.Span{}, row(3, 5, 7, 9), nil},
		{row(3, 5), nil, row(3, 5)},
		{row(3, 5, 1, 3), []span.Span{}, row(1, 5)},
		{row(5, 3), nil, nil},
		{row(5, 3), row(1, 2), nil},
		{row(1, 9), row(3, 5), row(1, 3, 5, 9)},
		{row(1, 9), row(0, 3, 7, 20), row(3, 7)},
		{row(1, 9), row(9, 3), row(1, 9)},
		{row(1, 9), row(5, 5), row(1, 9)},
		{row(1, 3, 3, 5), row(1, 9), nil},
		{row(1, 5), row(1, 5), nil},
		{row(1, 5), row(5, 9), row(1, 5)},
		{row(1, 5), row(0, 1), row(1, 5)},
		{row(1, 5), row(0, 2), row(2, 5)},
		{row(1, 5), row(4, 9), row(1, 4)},
		{row(1, 5), row(1, 4), row(4, 5)},
		{row(1, 5), row(2, 5), row(1, 2)},
		{row(1, 9), row(6, 7, 2, 3, 4, 5), row(1, 2, 3, 4, 5, 6, 7, 9)},
		{row(1, 9), row(3, 5, 5, 7), row(1, 3, 7, 9)},
		{row(1, 9, 4, 12), row(3, 5), row(1, 3, 5, 12)},
		{row(6, 7, 1, 2, 3, 5), row(0, 9), nil},
		{row(6, 9, 1, 2, 3, 5), row(4, 7), row(1, 2, 3, 4, 7, 9)},
		{row(1, 2, 3, 4), row(2, 3), row(1, 2, 3, 4)},
		{row(-9, 2), row(-5, -3), row(-9, -5, -3, 2)},
		{row(least, greatest), row(3, 5), row(least, 3, 5, greatest)},
		{row(least, greatest), row(least, greatest), nil},
		{row(least, greatest), nil, row(least, greatest)},
		{row(least, greatest), row(greatest, least), row(least, greatest)},
		{row(least, greatest), row(least, 0), row(0, greatest)},
		{row(least, greatest), row(0, greatest), row(least, 0)},
		{row(least, greatest), row(least, least+1, greatest-1, greatest), row(least+1, greatest-1)},
		{row(least, least+1, greatest-1, greatest), row(0, 9), row(least, least+1, greatest-1, greatest)},
		{row(3, 5), row(least, greatest), nil},
		{row(9, api.Forever), row(api.Forever-1, api.Forever), row(9, api.Forever-1)},
	} {
		if got := span.Less(x.a, x.b); !slices.Equal(got, x.want) {
			t.Errorf("P7.2: Less: %v, %v: %v", x.a, x.b, got)
		}
	}
}

func TestHas(t *testing.T) {
	for _, x := range []struct {
		given   []span.Span
		in, out []int
	}{
		{nil, nil, []int{least, -1, 0, 1, greatest}},
		{[]span.Span{}, nil, []int{least, -1, 0, 1, greatest}},
		{row(5, 3, 4, 4), nil, []int{2, 3, 4, 5}},
		{row(3, 5), []int{3, 4}, []int{2, 5}},
		{row(1, 2, 4, 6), []int{1, 4, 5}, []int{0, 2, 3, 6}},
		{row(4, 6, 1, 2), []int{1, 4, 5}, []int{0, 2, 3, 6}},
		{row(7, 9, 1, 2, 4, 6), []int{7, 8, 1, 4, 5}, []int{6, 9, 0, 2, 3}},
		{row(1, 9, 3, 5), []int{1, 2, 3, 4, 5, 8}, []int{0, 9}},
		{row(3, 5, 5, 7), []int{3, 4, 5, 6}, []int{2, 7}},
		{row(9, 1, 3, 5), []int{3, 4}, []int{1, 2, 5, 9}},
		{row(-5, -3, -1, 0), []int{-5, -4, -1}, []int{-6, -3, -2, 0}},
		{row(0, 1, least, least+1, greatest-1, greatest), []int{0, least, greatest - 1}, []int{1, -1, least + 1, greatest - 2, greatest}},
		{row(greatest, least, greatest, greatest), nil, []int{least, 0, greatest}},
		{row(least, greatest), []int{least, 0, greatest - 1}, []int{greatest}},
	} {
		for _, at := range x.in {
			if !span.Has(x.given, at) {
				t.Errorf("P7.2: Has: %v has not %d", x.given, at)
			}
		}
		for _, at := range x.out {
			if span.Has(x.given, at) {
				t.Errorf("P7.2: Has: %v has %d", x.given, at)
			}
		}
	}
}

func TestSame(t *testing.T) {
	for _, x := range []struct {
		a, b []span.Span
		want bool
	}{
		{nil, nil, true},
		{nil, []span.Span{}, true},
		{row(1, 2), row(1, 2), true},
		{row(3, 5, 1, 2), row(3, 5, 1, 2), true},
		{row(5, 3), row(5, 3), true},
		{row(least, greatest), row(least, greatest), true},
		{nil, row(1, 2), false},
		{nil, row(0, 0), false},
		{row(1, 2), row(1, 2, 1, 2), false},
		{row(1, 2), row(1, 2, 3, 4), false},
		{row(3, 4), row(1, 2, 3, 4), false},
		{row(1, 2), row(1, 3), false},
		{row(1, 3), row(2, 3), false},
		{row(1, 2), row(2, 1), false},
		{row(1, 2, 3, 5), row(1, 2, 3, 6), false},
		{row(1, 2, 3, 5), row(0, 2, 3, 5), false},
		{row(1, 2, 3, 5, 6, 7), row(1, 2, 4, 5, 6, 7), false},
		{row(3, 5, 1, 2), row(1, 2, 3, 5), false},
		{row(1, 5), row(1, 3, 3, 5), false},
		{row(1, 5, 1, 5), row(1, 5), false},
		{row(1, 5, 2, 3), row(1, 5, 3, 4), false},
		{row(5, 3), row(4, 4), false},
		{row(5, 3), nil, false},
	} {
		if got := span.Same(x.a, x.b); got != x.want {
			t.Errorf("P7.2: Same: %v, %v: %v", x.a, x.b, got)
		}
		if got := span.Same(x.b, x.a); got != x.want {
			t.Errorf("P7.2: Same: %v, %v: %v", x.b, x.a, got)
		}
	}
}

// checkOne holds what is told of one row against the model.
func checkOne(t *testing.T, x ticks, l []span.Span) {
	t.Helper()
	want := x.norm(l)
	if got := span.Norm(l); !slices.Equal(got, want) {
		t.Fatalf("P7.2: Norm: %v: %v", l, got)
	}
	if got := span.Join(l); !slices.Equal(got, want) {
		t.Fatalf("P7.2: Join of one row: %v: %v", l, got)
	}
	if got := span.Meet(l, l); !slices.Equal(got, want) {
		t.Fatalf("P7.2: Meet with itself: %v: %v", l, got)
	}
	if got := span.Less(l, l); len(got) > 0 {
		t.Fatalf("P7.2: Less itself: %v: %v", l, got)
	}
	if !span.Same(l, slices.Clone(l)) {
		t.Fatalf("P7.2: Same as itself: %v", l)
	}
	in := x.cells(l)
	for i, at := range x {
		// The last tick is at no beginning of a cell, so no span that ends there has it.
		if got := span.Has(l, at); got != (i < len(in) && in[i]) {
			t.Fatalf("P7.2: Has: %v, %d: %v", l, at, got)
		}
	}
}

// checkTwo holds what is told of two rows against the model, and against what follows.
func checkTwo(t *testing.T, x ticks, a, b []span.Span) {
	t.Helper()
	if got := span.Join(a, b); !slices.Equal(got, x.norm(slices.Concat(a, b))) {
		t.Fatalf("P7.2: Join: %v, %v: %v", a, b, got)
	}
	if got := span.Meet(a, b); !slices.Equal(got, x.meet(a, b)) {
		t.Fatalf("P7.2: Meet: %v, %v: %v", a, b, got)
	}
	if got := span.Less(a, b); !slices.Equal(got, x.less(a, b)) {
		t.Fatalf("P7.2: Less: %v, %v: %v", a, b, got)
	}
	if got := span.Same(a, b); got != slices.Equal(a, b) {
		t.Fatalf("P7.2: Same: %v, %v: %v", a, b, got)
	}
	if got := span.Same(span.Norm(a), span.Norm(b)); got != slices.Equal(x.cells(a), x.cells(b)) {
		t.Fatalf("P7.3: the same Norm: %v, %v: %v", a, b, got)
	}
	if !span.Same(span.Join(a, b), span.Join(b, a)) {
		t.Fatalf("P7.3: Join hangs on the order: %v, %v", a, b)
	}
}

func TestEachShortRow(t *testing.T) {
	for _, l := range small().rows(3) {
		checkOne(t, small(), l)
	}
	for _, l := range wide().rows(2) {
		checkOne(t, wide(), l)
	}
}

func TestEachTwoShortRows(t *testing.T) {
	rows := small().rows(2)
	for _, a := range rows {
		for _, b := range rows {
			checkTwo(t, small(), a, b)
		}
	}
}

func TestEachTwoWideSpans(t *testing.T) {
	for _, s := range wide().spans() {
		for _, o := range wide().spans() {
			checkTwo(t, wide(), []span.Span{s}, []span.Span{o})
		}
	}
}

// grid are n ticks around 0, so many that a row may have many spans, and many gaps.
func grid(n int) ticks {
	var x ticks
	for k := range n {
		x = append(x, 3*k-n)
	}
	return x
}

func TestRowsByChance(t *testing.T) {
	r := rand.New(rand.NewPCG(7, 1))
	for range 4000 {
		for _, x := range []ticks{wide(), grid(24), grid(70)} {
			a, b := x.row(r, 14), x.row(r, 14)
			checkOne(t, x, a)
			checkTwo(t, x, a, b)
		}
	}
}

// TestOrderOfSpans deals the spans of one row out to several rows, in any order.
func TestOrderOfSpans(t *testing.T) {
	r := rand.New(rand.NewPCG(7, 3))
	for range 3000 {
		l := grid(24).row(r, 9)
		want := span.Join(l)
		shuffled := slices.Clone(l)
		r.Shuffle(len(shuffled), func(i, k int) { shuffled[i], shuffled[k] = shuffled[k], shuffled[i] })
		dealt := make([][]span.Span, 1+r.IntN(5))
		for _, s := range shuffled {
			i := r.IntN(len(dealt))
			dealt[i] = append(dealt[i], s)
		}
		if got := span.Join(dealt...); !slices.Equal(got, want) {
			t.Fatalf("P7.3: Join hangs on the order: %v: %v, and %v: %v", l, want, dealt, got)
		}
	}
}

func TestSameTimes(t *testing.T) {
	for _, x := range []struct {
		a, b []span.Span
		want bool
	}{
		{row(1, 5), row(3, 5, 1, 3), true},
		{row(1, 5), row(1, 4, 2, 5, 9, 9), true},
		{row(1, 5, 7, 9), row(7, 9, 1, 2, 2, 5), true},
		{nil, row(5, 3, 4, 4), true},
		{row(least, greatest), row(0, greatest, least, 0), true},
		{row(1, 5), row(1, 4), false},
		{row(1, 5), row(1, 3, 4, 5), false},
		{row(1, 5), row(0, 5), false},
		{nil, row(0, 1), false},
		{row(1, 5), row(1, 5, greatest-1, greatest), false},
	} {
		if got := span.Same(span.Norm(x.a), span.Norm(x.b)); got != x.want {
			t.Errorf("P7.3: the same Norm: %v, %v: %v", x.a, x.b, got)
		}
	}
}

func TestExample(t *testing.T) {
	if got := span.Norm([]span.Span{{From: 3, To: 5}, {From: 1, To: 3}, {From: 4, To: 4}}); !span.Same(got, []span.Span{{From: 1, To: 5}}) {
		t.Errorf("P7.2: the chapter's example: %v", got)
	}
}

// calls are all those that tell a row, of any two rows.
func calls() map[string]func(a, b []span.Span) []span.Span {
	return map[string]func(a, b []span.Span) []span.Span{
		"Norm":         func(a, b []span.Span) []span.Span { return span.Norm(a) },
		"Join of one":  func(a, b []span.Span) []span.Span { return span.Join(a) },
		"Join of two":  func(a, b []span.Span) []span.Span { return span.Join(a, b) },
		"Join of rows": func(a, b []span.Span) []span.Span { return span.Join([][]span.Span{a, nil, b}...) },
		"Meet":         span.Meet,
		"Less":         span.Less,
	}
}

// TestManySpans has rows that are too long for anyone who goes over one row for each span of the other, or of its own.
func TestManySpans(t *testing.T) {
	const many = 1 << 18
	var odd, falling, nested, touching []span.Span
	for k := range many {
		odd = append(odd, span.Span{From: 4 * k, To: 4*k + 2})
		falling = append(falling, span.Span{From: 4 * (many - k), To: 4*(many-k) + 2})
		nested = append(nested, span.Span{From: k, To: 8*many - k})
		touching = append(touching, span.Span{From: 4 * k, To: 4*k + 4})
	}
	slices.Reverse(touching)
	all := row(0, 4*many)
	for _, x := range []struct {
		what  string
		got   []span.Span
		count int
	}{
		{"P7.2: Norm of spans apart", span.Norm(odd), many},
		{"P7.2: Norm of spans that fall", span.Norm(falling), many},
		{"P7.2: Norm of nested spans", span.Norm(nested), 1},
		{"P7.2: Norm of spans that touch", span.Norm(touching), 1},
		{"P7.2: Join", span.Join(odd, falling, odd), many + 1},
		{"P7.2: Join of all", span.Join(odd, touching, nested), 1},
		{"P7.2: Meet", span.Meet(odd, falling), many - 1},
		{"P7.2: Meet with one", span.Meet(odd, all), many},
		{"P7.2: Meet of one", span.Meet(nested, odd), many},
		{"P7.2: Less", span.Less(odd, falling), 1},
		{"P7.2: Less of one", span.Less(all, odd), many},
		{"P7.2: Less one", span.Less(odd, all), 0},
		{"P7.2: Less many within one", span.Less(nested, odd), many},
	} {
		if len(x.got) != x.count {
			t.Errorf("%s: %d spans", x.what, len(x.got))
		}
	}
	if got := span.Norm(falling)[0]; got != (span.Span{From: 4, To: 6}) {
		t.Errorf("P7.2: Norm of spans that fall: the first is %v", got)
	}
	if !span.Has(falling, 4) || span.Has(falling, 3) {
		t.Error("P7.2: Has of a long row")
	}
}

// TestManyRows joins rows that are many, beside each other.
func TestManyRows(t *testing.T) {
	const many = 1 << 16
	var rows [][]span.Span
	for k := range many {
		rows = append(rows, row(2*(many-k), 2*(many-k)+1), nil)
	}
	if got := span.Join(rows...); len(got) != many || got[0] != (span.Span{From: 2, To: 3}) {
		t.Errorf("P7.2: Join of many rows: %d spans", len(got))
	}
	if got := span.Join(append(rows, row(0, 4*many))...); !slices.Equal(got, row(0, 4*many)) {
		t.Errorf("P7.2: Join of many rows, and one over all: %d spans", len(got))
	}
}

// given are rows of all kinds: those that are like Norm's already are the ones that a lazy answer would hand back.
func given() [][]span.Span {
	return [][]span.Span{nil, {}, row(5, 3), row(1, 9), row(1, 3, 5, 7), row(5, 7, 1, 3), row(4, 4, 5, 7, 1, 3, 3, 4), row(1, 2, 2, 3, 1, 9, 20, 30), row(9, 1, 3, 5)}
}

func TestGivenStays(t *testing.T) {
	for what, call := range calls() {
		for _, a := range given() {
			for _, b := range given() {
				keptA, keptB := slices.Clone(a), slices.Clone(b)
				call(a, b)
				span.Has(a, 4)
				span.Same(a, b)
				if !slices.Equal(a, keptA) || !slices.Equal(b, keptB) {
					t.Errorf("R5: %s: %v, %v became %v, %v", what, keptA, keptB, a, b)
				}
			}
		}
	}
}

func TestRowsGivenStay(t *testing.T) {
	rows := [][]span.Span{row(3, 5, 1, 2), nil, row(9, 1), row(2, 3)}
	kept := [][]span.Span{row(3, 5, 1, 2), nil, row(9, 1), row(2, 3)}
	span.Join(rows...)
	if !slices.EqualFunc(rows, kept, slices.Equal[[]span.Span]) {
		t.Errorf("R5: the rows became %v", rows)
	}
}

// TestGivenStaysBehindItsEnd has rows with room behind them, in which other spans stand.
func TestGivenStaysBehindItsEnd(t *testing.T) {
	for what, call := range calls() {
		for _, l := range given() {
			for _, m := range given() {
				a := append(slices.Clone(l), row(70, 80, 60, 50, 40, 45)...)
				b := append(slices.Clone(m), row(71, 81, 61, 51, 41, 46)...)
				keptA, keptB := slices.Clone(a), slices.Clone(b)
				got := call(a[:len(l)], b[:len(m)])
				_ = append(got, row(0, 100, 200, 300)...)
				if !slices.Equal(a, keptA) || !slices.Equal(b, keptB) {
					t.Errorf("R5: %s: %v, %v became %v, %v", what, keptA, keptB, a, b)
				}
			}
		}
	}
}

func TestToldIsTheCallersOwn(t *testing.T) {
	for what, call := range calls() {
		for _, l := range given() {
			for _, m := range given() {
				a, b := slices.Clone(l), slices.Clone(m)
				first, second := call(a, b), call(a, b)
				kept := slices.Clone(second)
				for i := range first {
					first[i] = span.Span{From: -7, To: 77}
				}
				if !slices.Equal(a, l) || !slices.Equal(b, m) || !slices.Equal(second, kept) {
					t.Errorf("R6: %s: written into what was told of %v, %v: %v, %v, %v", what, l, m, a, b, second)
				}
				for _, given := range [][]span.Span{a, b} {
					for i := range given {
						given[i] = span.Span{From: -8, To: 88}
					}
				}
				if !slices.Equal(second, kept) {
					t.Errorf("R6: %s: written into what was given, %v, %v: %v", what, l, m, second)
				}
			}
		}
	}
}

func TestToldAgain(t *testing.T) {
	r := rand.New(rand.NewPCG(7, 7))
	for range 500 {
		a, b := grid(24).row(r, 9), grid(24).row(r, 9)
		// With room behind them, and without: no answer hangs on it.
		roomy := append(slices.Clone(a), row(1, 2, 3, 4, 5, 6)...)[:len(a)]
		for what, call := range calls() {
			first, again := fmt.Sprint(call(a, b)), fmt.Sprint(call(roomy, b))
			if first != again {
				t.Fatalf("R7: %s: %v, %v: %s, and then %s", what, a, b, first, again)
			}
		}
	}
}
