package name_test

import (
	"slices"
	"strings"
	"testing"

	"afterglow/api"
	"afterglow/name"
)

const alphabet = "abcdefghijklmnopqrstuvwxyz0123456789"

// texts are ones of all kinds, names and others: empty, beginnings of each other, bytes at both ends.
func texts() []string {
	return []string{"", "a", "ab", "abc", "b", "ba", "z", "0", "9", "09", "A", "a b", " ", "\x00", "a\x00", "\xff", "a\xff", "\u00e4", strings.Repeat("a", 13), strings.Repeat("a", 300)}
}

// rows are all rows of up to most of the texts.
func rows(texts []string, most int) [][]string {
	all := [][]string{nil}
	longest := all
	for range most {
		var longer [][]string
		for _, row := range longest {
			for _, s := range texts {
				longer = append(longer, append(slices.Clone(row), s))
			}
		}
		all = append(all, longer...)
		longest = longer
	}
	return all
}

// order is the document's order, spelt out byte by byte.
func order(a, b string) int {
	for i := 0; i < len(a) && i < len(b); i++ {
		if a[i] < b[i] {
			return -1
		}
		if a[i] > b[i] {
			return 1
		}
	}
	switch {
	case len(a) < len(b):
		return -1
	case len(a) > len(b):
		return 1
	}
	return 0
}

func TestRightByLength(t *testing.T) {
	for n := range 3 * api.MaxName {
		want := 1 <= n && n <= api.MaxName
		if got := name.Right(strings.Repeat("q", n)); got != want {
			t.Errorf("P1.1: Right of %d bytes: %v", n, got)
		}
	}
	if name.Right(strings.Repeat("a", 1<<16)) {
		t.Error("P1.1: Right of 65536 bytes")
	}
}

func TestRightByByte(t *testing.T) {
	for c := range 256 {
		one := string([]byte{byte(c)})
		want := strings.Contains(alphabet, one)
		if got := name.Right(one); got != want {
			t.Errorf("P1.1: Right of byte %d alone: %v", c, got)
		}
		for at := range api.MaxName {
			s := strings.Repeat("k", at) + one + strings.Repeat("7", api.MaxName-1-at)
			if got := name.Right(s); got != want {
				t.Errorf("P1.1: Right of byte %d at %d: %v", c, at, got)
			}
		}
	}
}

func TestRightCountsBytes(t *testing.T) {
	for _, s := range []string{"\u00e4", "ann\u00e4", "\u0430", "\xff", "ann\n", " ann", "ann ", "Ann", "a-b", "a_b", "a.b"} {
		if name.Right(s) {
			t.Errorf("P1.1: Right: %q", s)
		}
	}
}

func TestAll(t *testing.T) {
	if !name.All() || !name.All(nil...) || !name.All([]string{}...) {
		t.Error("P1.1: All of none")
	}
	for _, row := range rows([]string{"", "a", "z9", "A", "abcdefghijkl", "abcdefghijklm"}, 4) {
		want := true
		for _, s := range row {
			want = want && name.Right(s)
		}
		if got := name.All(row...); got != want {
			t.Errorf("P1.1: All: %q: %v", row, got)
		}
	}
}

func TestCmp(t *testing.T) {
	for _, a := range texts() {
		for _, b := range texts() {
			if got, want := name.Cmp(a, b), order(a, b); got != want {
				t.Errorf("P1.2: Cmp: %q, %q: %d", a, b, got)
			}
		}
	}
}

func TestCmpByByte(t *testing.T) {
	for a := range 256 {
		for b := range 256 {
			x, y := "k"+string([]byte{byte(a)})+"z", "k"+string([]byte{byte(b)})+"a"
			if got, want := name.Cmp(x, y), order(x, y); got != want {
				t.Errorf("P1.2: Cmp: %q, %q: %d", x, y, got)
			}
		}
	}
}

func TestLeast(t *testing.T) {
	for _, x := range []struct {
		row  []string
		want string
		is   bool
	}{
		{nil, "", false},
		{[]string{}, "", false},
		{[]string{""}, "", true},
		{[]string{"b"}, "b", true},
		{[]string{"b", "a", "c"}, "a", true},
		{[]string{"a", "b", "c"}, "a", true},
		{[]string{"c", "b", "a"}, "a", true},
		{[]string{"ab", "a", "abc"}, "a", true},
		{[]string{"a", ""}, "", true},
		{[]string{"z", "Z", "\xff"}, "Z", true},
		{[]string{"b", "b"}, "b", true},
	} {
		if got, is := name.Least(x.row...); got != x.want || is != x.is {
			t.Errorf("P1.2: Least: %q: %q, %v", x.row, got, is)
		}
	}
}

func TestSorted(t *testing.T) {
	for _, x := range []struct{ row, want []string }{
		{nil, nil},
		{[]string{}, nil},
		{[]string{""}, []string{""}},
		{[]string{"b", "a", "b"}, []string{"a", "b"}},
		{[]string{"a", "a", "a"}, []string{"a"}},
		{[]string{"b", "", "a", ""}, []string{"", "a", "b"}},
		{[]string{"abc", "ab", "a"}, []string{"a", "ab", "abc"}},
		{[]string{"a", "0", "A", "\xff", "\u00e4"}, []string{"0", "A", "a", "\u00e4", "\xff"}},
		{[]string{"10", "9", "1"}, []string{"1", "10", "9"}},
	} {
		if got := name.Sorted(x.row...); !slices.Equal(got, x.want) {
			t.Errorf("P1.2: Sorted: %q: %q", x.row, got)
		}
	}
	if got := name.Sorted("b", "a", "b"); !slices.Equal(got, []string{"a", "b"}) {
		t.Errorf("P1.2: Sorted, one by one: %q", got)
	}
}

func TestPairRight(t *testing.T) {
	for _, w := range texts() {
		for _, u := range texts() {
			p := name.Pair{W: w, U: u}
			if got, want := p.Right(), name.Right(w) && name.Right(u); got != want {
				t.Errorf("P1.3: Right: %q: %v", p, got)
			}
		}
	}
	if !(name.Pair{W: "ann", U: "ann"}).Right() {
		t.Error("P1.3: Right: one name twice")
	}
}

func TestPairCmp(t *testing.T) {
	some := []string{"", "a", "ab", "b", "Z", "\xff"}
	for _, pw := range some {
		for _, pu := range some {
			for _, qw := range some {
				for _, qu := range some {
					want := order(pw, qw)
					if pw == qw {
						want = order(pu, qu)
					}
					p, q := name.Pair{W: pw, U: pu}, name.Pair{W: qw, U: qu}
					if got := p.Cmp(q); got != want {
						t.Errorf("P1.3: Cmp: %q, %q: %d", p, q, got)
					}
				}
			}
		}
	}
}

func TestPairHas(t *testing.T) {
	for _, x := range []struct {
		p    name.Pair
		s    string
		want bool
	}{
		{name.Pair{W: "bob", U: "ann"}, "bob", true},
		{name.Pair{W: "bob", U: "ann"}, "ann", true},
		{name.Pair{W: "bob", U: "ann"}, "an", false},
		{name.Pair{W: "bob", U: "ann"}, "bobann", false},
		{name.Pair{W: "bob", U: "ann"}, "", false},
		{name.Pair{W: "bob", U: "bob"}, "bob", true},
		{name.Pair{W: "bob", U: "bob"}, "ann", false},
		{name.Pair{W: "bob"}, "", true},
		{name.Pair{U: "ann"}, "", true},
		{name.Pair{}, "", true},
		{name.Pair{}, "a", false},
		{name.Pair{W: "A b", U: "\xff"}, "A b", true},
	} {
		if got := x.p.Has(x.s); got != x.want {
			t.Errorf("P1.3: Has: %q, %q: %v", x.p, x.s, got)
		}
	}
}

func TestWhatFollows(t *testing.T) {
	for _, row := range rows([]string{"", "a", "ab", "b", "A", "\xff", "z0"}, 5) {
		sorted := name.Sorted(row...)
		for i := 1; i < len(sorted); i++ {
			if name.Cmp(sorted[i-1], sorted[i]) != -1 {
				t.Fatalf("P1.4: Sorted does not rise: %q: %q", row, sorted)
			}
		}
		for _, s := range row {
			if !slices.Contains(sorted, s) {
				t.Fatalf("P1.4: Sorted lacks %q: %q: %q", s, row, sorted)
			}
		}
		for _, s := range sorted {
			if !slices.Contains(row, s) {
				t.Fatalf("P1.4: Sorted has %q of its own: %q: %q", s, row, sorted)
			}
		}
		least, is := name.Least(row...)
		if is != (len(sorted) > 0) || is && least != sorted[0] {
			t.Fatalf("P1.4: Least is not the first of Sorted: %q: %q, %v", row, least, is)
		}
	}
}

// TestLongRow has a row that is too long for the short ways of a sort.
func TestLongRow(t *testing.T) {
	var row, want []string
	for _, a := range alphabet {
		for _, b := range alphabet {
			want = append(want, string(a)+string(b))
		}
	}
	slices.SortFunc(want, order)
	for i := range 3 * len(want) {
		row = append(row, want[(i*605+7)%len(want)])
	}
	if got := name.Sorted(row...); !slices.Equal(got, want) {
		t.Errorf("P1.4: Sorted of a long row: %d texts of %d", len(got), len(want))
	}
	if got, is := name.Least(row...); got != want[0] || !is {
		t.Errorf("P1.4: Least of a long row: %q, %v", got, is)
	}
}

func TestGivenStays(t *testing.T) {
	for _, row := range rows([]string{"", "b", "a", "A"}, 4) {
		given := slices.Clone(row)
		name.All(given...)
		name.Least(given...)
		name.Sorted(given...)
		if !slices.Equal(given, row) {
			t.Fatalf("R5: %q became %q", row, given)
		}
	}
}

func TestGivenStaysBehindItsEnd(t *testing.T) {
	whole := []string{"c", "b", "b", "a", "kept"}
	sorted := name.Sorted(whole[:4]...)
	_ = append(sorted, "x", "y")
	if want := []string{"c", "b", "b", "a", "kept"}; !slices.Equal(whole, want) {
		t.Errorf("R5: the row became %q", whole)
	}
}

func TestToldIsTheCallersOwn(t *testing.T) {
	// Rows that are in order already are the ones that a lazy answer would hand back.
	for _, row := range [][]string{{"a"}, {"a", "b"}, {"b", "a", "b"}} {
		given := slices.Clone(row)
		first := name.Sorted(given...)
		second := name.Sorted(given...)
		kept := slices.Clone(second)
		for i := range first {
			first[i] = "written"
		}
		if !slices.Equal(given, row) || !slices.Equal(second, kept) {
			t.Errorf("R6: written into what was told of %q: %q, %q", row, given, second)
		}
		for i := range given {
			given[i] = "written"
		}
		if !slices.Equal(second, kept) {
			t.Errorf("R6: written into what was given, %q: %q", row, second)
		}
	}
}
