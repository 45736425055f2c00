package page_test

import (
	"math/rand/v2"
	"slices"
	"testing"

	"afterglow/api"
	"afterglow/hist"
	"afterglow/page"
)

func same(a, b [][]hist.Stay) bool { return slices.EqualFunc(a, b, hist.Same) }

// chain goes from cursor to cursor, by Of, as the chapter says.
func chain(l []hist.Stay, n int) [][]hist.Stay {
	var all [][]hist.Stay
	for cursor := ""; ; {
		p, next, err := page.Of(l, cursor, n)
		if err != api.OK {
			return nil
		}
		all = append(all, p)
		if next == "" {
			return all
		}
		cursor = next
	}
}

func TestAll(t *testing.T) {
	l, wide := five(), long(250)
	for what, x := range map[string]struct {
		l    []hist.Stay
		n    int
		want [][]hist.Stay
	}{
		"of none":                      {nil, 3, [][]hist.Stay{nil}},
		"of an empty row":              {[]hist.Stay{}, 1, [][]hist.Stay{nil}},
		"of one":                       {l[:1], 1, [][]hist.Stay{l[:1]}},
		"the least n":                  {l[:3], least, [][]hist.Stay{l[:1], l[1:2], l[2:3]}},
		"n of 0":                       {l[:3], 0, [][]hist.Stay{l[:1], l[1:2], l[2:3]}},
		"n of 1":                       {l[:3], 1, [][]hist.Stay{l[:1], l[1:2], l[2:3]}},
		"n divides":                    {l[:4], 2, [][]hist.Stay{l[:2], l[2:4]}},
		"n does not divide":            {l, 2, [][]hist.Stay{l[:2], l[2:4], l[4:]}},
		"n does not divide, two more":  {l, 3, [][]hist.Stay{l[:3], l[3:]}},
		"one less than there are":      {l, 4, [][]hist.Stay{l[:4], l[4:]}},
		"as many as there are":         {l, 5, [][]hist.Stay{l}},
		"one more than there are":      {l, 6, [][]hist.Stay{l}},
		"the greatest n":               {l, greatest, [][]hist.Stay{l}},
		"MaxPage":                      {wide, 100, [][]hist.Stay{wide[:100], wide[100:200], wide[200:]}},
		"above MaxPage":                {wide, 101, [][]hist.Stay{wide[:100], wide[100:200], wide[200:]}},
		"far above MaxPage":            {wide, greatest, [][]hist.Stay{wide[:100], wide[100:200], wide[200:]}},
		"MaxPage divides":              {wide[:200], 250, [][]hist.Stay{wide[:100], wide[100:200]}},
		"below MaxPage":                {wide, 99, [][]hist.Stay{wide[:99], wide[99:198], wide[198:]}},
		"as many as there are, of 250": {wide, 125, [][]hist.Stay{wide[:100], wide[100:200], wide[200:]}},
	} {
		if got := page.All(x.l, x.n); !same(got, x.want) {
			t.Errorf("P14.3: All, %s: %v; should be %v", what, got, x.want)
		}
	}
}

func TestAllOfNoRow(t *testing.T) {
	for what, l := range noRows() {
		for _, n := range []int{least, -1, 0, 1, 2, 5, 100, greatest} {
			if got := page.All(l, n); len(got) != 0 {
				t.Errorf("P14.3: All of a row that %s: %v", what, got)
			}
		}
	}
}

// TestAllOfMany has so many pages that the row cannot be gone through anew for each of them.
func TestAllOfMany(t *testing.T) {
	if got := page.All(long(100000), 1); len(got) != 100000 || got[99999][0] != stay(199998, 199999, 1, 1) {
		t.Errorf("P14.3: All of many: %d pages", len(got))
	}
}

func TestPagesFollow(t *testing.T) {
	r := rand.New(rand.NewPCG(14, 2))
	for range 5000 {
		l, n := someRow(r, 30), r.IntN(35)-1
		all := page.All(l, n)
		if !same(all, chain(l, n)) {
			t.Fatalf("P14.3: All of %v, %d: %v; from cursor to cursor: %v", l, n, all, chain(l, n))
		}
		if !slices.Equal(slices.Concat(all...), l) {
			t.Fatalf("P14.4: the pages of %v, %d, together: %v", l, n, all)
		}
		for i, p := range all {
			if i < len(all)-1 && len(p) != max(n, 1) || len(p) > max(n, 1) || len(p) == 0 && len(l) > 0 {
				t.Fatalf("P14.4: the pages of %v, %d: page %d has %d", l, n, i, len(p))
			}
		}
		if len(l) == 0 && len(all) != 1 {
			t.Fatalf("P14.4: the pages of nothing: %v", all)
		}
	}
}

// TestPagesOfEach goes through each number of stays, and each n, about MaxPage, too.
func TestPagesOfEach(t *testing.T) {
	for _, count := range []int{0, 1, 2, 3, 6, 12, 99, 100, 101, 199, 200, 201} {
		l := long(count)
		for n := -1; n < 110; n++ {
			all, size := page.All(l, n), min(max(n, 1), 100)
			if !slices.Equal(slices.Concat(all...), l) || len(all) != max((count+size-1)/size, 1) || !same(all, chain(l, n)) {
				t.Fatalf("P14.4: the pages of %d stays, %d: %v", count, n, all)
			}
		}
	}
}

func TestCursorTellsTheSame(t *testing.T) {
	r := rand.New(rand.NewPCG(14, 3))
	told := 0
	for range 5000 {
		l, n := someRow(r, 20), 1+r.IntN(6)
		cursor := someCursor(r, 20)
		c, is := page.Parse(cursor)
		if !is {
			continue
		}
		// Others come, and some go, but none of those above the cursor's.
		ahead := func(s hist.Stay) bool { return s.Cmp(c) <= 0 }
		other := slices.DeleteFunc(someRow(r, 20), func(s hist.Stay) bool { return !ahead(s) })
		other = append(other, slices.DeleteFunc(slices.Clone(l), ahead)...)
		p, next, err := page.Of(l, cursor, n)
		q, leads, no := page.Of(other, cursor, n)
		if !slices.Equal(p, q) || next != leads || err != api.OK || no != api.OK {
			t.Fatalf("P14.4: %q, %d, of %v: %v, %q, %v; of %v: %v, %q, %v", cursor, n, l, p, next, err, other, q, leads, no)
		}
		if len(p) > 0 && !slices.Equal(l, other) {
			told++
		}
	}
	if told < 2000 {
		t.Errorf("few cursors tell something, of rows that differ: %d", told)
	}
}

// TestKeysRoundTrip reads what was written, and writes what was read.
func TestKeysRoundTrip(t *testing.T) {
	r := rand.New(rand.NewPCG(14, 4))
	number := func() int {
		n := r.IntN(forever + 1)
		return n >> r.IntN(42)
	}
	for range 20000 {
		s := stay(number(), number(), number(), number())
		k := page.Key(s)
		if got, is := page.Parse(k); k != key(s) || got != s || !is || page.Key(got) != k {
			t.Fatalf("P14.1: %v: %q, and read: %v, %v", s, k, got, is)
		}
	}
}
