package page_test

import (
	"fmt"
	"math/rand/v2"
	"slices"
	"testing"

	"afterglow/hist"
	"afterglow/page"
)

// roomy is the row with room behind it, in which other stays stand.
func roomy(l []hist.Stay) []hist.Stay {
	return append(slices.Clone(l), stay(5, 6, 77, 1), stay(-1, -1, -1, -1), stay(5000, 6000, 78, 2))[:len(l)]
}

// fill writes into a row, and behind its end.
func fill(l []hist.Stay) {
	l = l[:cap(l)]
	for i := range l {
		l[i] = stay(-7, -7, -7, -7)
	}
}

func text[T any](x T) string { return fmt.Sprint(x) }

// rows are such as a page is all of, a part of, or nothing of, and some that are refused.
func rows() [][]hist.Stay {
	l := [][]hist.Stay{nil, five(), five()[:1], mixed(), long(100), long(101), long(250)}
	for _, no := range noRows() {
		l = append(l, no)
	}
	return l
}

func TestGivenStaysAsItWas(t *testing.T) {
	for _, from := range rows() {
		for _, cursor := range []string{"", "0.0.0.0", "3.5.1.1", "900.901.1.1", "x"} {
			for _, n := range []int{-1, 1, 2, len(from), 100} {
				l := roomy(from)
				before := text(l[:cap(l)])
				told, _, _ := page.Of(l, cursor, n)
				fill(told)
				for _, p := range page.All(l, n) {
					fill(p)
				}
				if text(l[:cap(l)]) != before {
					t.Fatalf("R5: Of and All of %v, %q, %d: became %v", from, cursor, n, l[:cap(l)])
				}
			}
		}
	}
}

func TestToldIsTheCallersOwn(t *testing.T) {
	for _, from := range rows() {
		for _, cursor := range []string{"", "0.0.0.0", "3.5.1.1"} {
			for _, n := range []int{1, 2, 5, 100} {
				l := roomy(from)
				first, _, _ := page.Of(l, cursor, n)
				second, _, _ := page.Of(l, cursor, n)
				all, again := page.All(l, n), page.All(l, n)
				wantPage, wantAll := text(second), text(again)
				fill(first)
				for i, p := range all {
					fill(p)
					if behind := all[i+1:]; text(behind) != text(again[i+1:]) {
						t.Fatalf("R6: pages of %v, %d: page %d, written into, changes those behind it: %v", from, n, i, behind)
					}
				}
				fill(l)
				if text(second) != wantPage || text(again) != wantAll {
					t.Fatalf("R6: %v, %q, %d: written into what was given and told: %v, %v", from, cursor, n, second, again)
				}
			}
		}
	}
}

func TestToldAgain(t *testing.T) {
	r := rand.New(rand.NewPCG(14, 5))
	for range 2000 {
		l, cursor, n := someRow(r, 20), someCursor(r, 20), r.IntN(12)
		// With room behind the row, and without: no answer hangs on it.
		p, next, err := page.Of(l, cursor, n)
		all := page.All(l, n)
		q, leads, no := page.Of(roomy(l), cursor, n)
		if !slices.Equal(p, q) || next != leads || err != no || !same(all, page.All(roomy(l), n)) {
			t.Fatalf("R7: %v, %q, %d: %v, %q, %v, and then %v, %q, %v", l, cursor, n, p, next, err, q, leads, no)
		}
	}
}
