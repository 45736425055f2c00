package page_test

import (
	"math/rand/v2"
	"slices"
	"strings"
	"testing"

	"afterglow/api"
	"afterglow/hist"
	"afterglow/page"
)

func TestChaptersExample(t *testing.T) {
	if got := page.Key(stay(3, 9, 1, 2)); got != "3.9.1.2" {
		t.Errorf("P14.1: the chapter's example: %q", got)
	}
	if got, is := page.Parse("3.9.1.2"); got != stay(3, 9, 1, 2) || !is {
		t.Errorf("P14.1: the chapter's example, read: %v, %v", got, is)
	}
}

// edges are the numbers about the least and the greatest that have digits, and about their lengths.
func edges() []int {
	return []int{least, -forever, -10, -1, 0, 1, 9, 10, 11, 99, 100, 999, 1000, forever - 1, forever, forever + 1, 10 * forever, greatest}
}

func TestKey(t *testing.T) {
	for _, x := range []struct {
		s    hist.Stay
		want string
	}{
		{hist.Stay{}, "0.0.0.0"},
		{stay(1, 2, 3, 4), "1.2.3.4"},
		{stay(9, 3, 1, 2), "9.3.1.2"},
		{stay(5, 5, 1, 2), "5.5.1.2"},
		{stay(10, 200, 3000, 0), "10.200.3000.0"},
		{stay(7, 8, 999, 4), "7.8.999.4"},
		{stay(forever-1, forever, 1, 2), "1099511627775.1099511627776.1.2"},
		{stay(forever, forever, forever, forever), "1099511627776.1099511627776.1099511627776.1099511627776"},
		{stay(forever+1, 9, 1, 2), ""},
		{stay(3, forever+1, 1, 2), ""},
		{stay(3, 9, forever+1, 2), ""},
		{stay(3, 9, 1, forever+1), ""},
		{stay(-1, 9, 1, 2), ""},
		{stay(3, -1, 1, 2), ""},
		{stay(3, 9, -1, 2), ""},
		{stay(3, 9, 1, -1), ""},
		{stay(least, greatest, least, greatest), ""},
	} {
		if got := page.Key(x.s); got != x.want {
			t.Errorf("P14.1: Key of %v: %q; should be %q", x.s, got, x.want)
		}
	}
}

func TestKeyOfEdges(t *testing.T) {
	for place := range 4 {
		for _, n := range edges() {
			f := []int{3, 9, 1, 2}
			f[place] = n
			if s := stays(f...)[0]; page.Key(s) != key(s) {
				t.Errorf("P14.1: Key of %v: %q; should be %q", s, page.Key(s), key(s))
			}
		}
	}
	for _, a := range edges() {
		for _, b := range edges() {
			for _, s := range []hist.Stay{stay(a, b, a, b), stay(b, a, a, a), stay(a, a, b, b), stay(a, b, 1, 1), stay(1, 1, a, b)} {
				if page.Key(s) != key(s) {
					t.Errorf("P14.1: Key of %v: %q; should be %q", s, page.Key(s), key(s))
				}
			}
		}
	}
}

func TestParse(t *testing.T) {
	for _, s := range append(mixed(), stay(0, 0, 0, 0), stay(9, 3, 1, 2), stay(forever, forever, forever, forever)) {
		if got, is := page.Parse(key(s)); got != s || !is {
			t.Errorf("P14.1: Parse of %q: %v, %v", key(s), got, is)
		}
	}
	for _, text := range append(noCursors(), "") {
		if got, is := page.Parse(text); got != (hist.Stay{}) || is {
			t.Errorf("P14.1: Parse of %q, which is no Key: %v, %v", text, got, is)
		}
	}
}

func checkParse(t *testing.T, text string) {
	t.Helper()
	want, has := parse(text)
	if got, is := page.Parse(text); got != want || is != has {
		t.Fatalf("P14.1: Parse of %q: %v, %v; should be %v, %v", text, got, is, want, has)
	}
}

// TestParseOfShortTexts reads all texts of these bytes, up to a length at which there are many Keys among them.
func TestParseOfShortTexts(t *testing.T) {
	texts := []string{""}
	for range 9 {
		var longer []string
		for _, text := range texts {
			checkParse(t, text)
			for _, c := range ".01" {
				longer = append(longer, text+string(c))
			}
		}
		texts = longer
	}
	for _, text := range texts {
		checkParse(t, text)
	}
}

// TestParseOfNearlyKeys changes a Key at each place: by each byte instead of what is there, and ahead of it, and by nothing.
func TestParseOfNearlyKeys(t *testing.T) {
	for _, k := range []string{"0.0.0.0", "3.9.1.2", "10.20.30.40", "1099511627775.1099511627776.999.4", key(stay(forever, forever, forever, forever))} {
		for i := range len(k) + 1 {
			for c := range 256 {
				checkParse(t, k[:i]+string([]byte{byte(c)})+k[i:])
				if i < len(k) {
					checkParse(t, k[:i]+string([]byte{byte(c)})+k[i+1:])
				}
			}
			checkParse(t, k[:i])
			checkParse(t, k[i:])
			if i < len(k) {
				checkParse(t, k[:i]+k[i+1:])
			}
		}
	}
}

func TestParseOfLongTexts(t *testing.T) {
	many := 1 << 20
	for _, text := range []string{
		strings.Repeat(".", many),
		strings.Repeat("1", many),
		strings.Repeat("0", many),
		strings.Repeat("1.", many),
		"1.2.3." + strings.Repeat("9", many),
		strings.Repeat("0", many) + ".1.2.3",
		"1.2.3.4" + strings.Repeat(".", many),
	} {
		if got, is := page.Parse(text); got != (hist.Stay{}) || is {
			t.Errorf("P14.1: Parse of a long text, %q..: %v, %v", text[:9], got, is)
		}
	}
}

// paged is what is asked of Of, and what it should tell.
type paged struct {
	what   string
	l      []hist.Stay
	cursor string
	n      int
	want   []hist.Stay
	next   string
	err    api.Errno
}

func checkOf(t *testing.T, l []paged) {
	t.Helper()
	for _, x := range l {
		got, next, err := page.Of(x.l, x.cursor, x.n)
		if !slices.Equal(got, x.want) || next != x.next || err != x.err {
			t.Errorf("P14.2: %s: %v, %q, %v; should be %v, %q, %v", x.what, got, next, err, x.want, x.next, x.err)
		}
	}
}

func five() []hist.Stay { return stays(1, 9, 1, 1, 3, 5, 1, 1, 3, 5, 2, 1, 3, 6, 1, 1, 8, 9, 1, 4) }

func TestOfSoMany(t *testing.T) {
	l, wide := five(), long(250)
	checkOf(t, []paged{
		{"the least n", l, "", least, l[:1], "1.9.1.1", api.OK},
		{"n below 0", l, "", -1, l[:1], "1.9.1.1", api.OK},
		{"n of 0", l, "", 0, l[:1], "1.9.1.1", api.OK},
		{"n of 1", l, "", 1, l[:1], "1.9.1.1", api.OK},
		{"n of 2", l, "", 2, l[:2], "3.5.1.1", api.OK},
		{"one less than there are", l, "", 4, l[:4], "3.6.1.1", api.OK},
		{"as many as there are", l, "", 5, l, "", api.OK},
		{"one more than there are", l, "", 6, l, "", api.OK},
		{"MaxPage, of few", l, "", 100, l, "", api.OK},
		{"the greatest n, of few", l, "", greatest, l, "", api.OK},
		{"below MaxPage", wide, "", 99, wide[:99], "196.197.1.1", api.OK},
		{"MaxPage", wide, "", 100, wide[:100], "198.199.1.1", api.OK},
		{"above MaxPage", wide, "", 101, wide[:100], "198.199.1.1", api.OK},
		{"far above MaxPage", wide, "", 250, wide[:100], "198.199.1.1", api.OK},
		{"the greatest n", wide, "", greatest, wide[:100], "198.199.1.1", api.OK},
		{"the greatest n, of just MaxPage", wide[:100], "", greatest, wide[:100], "", api.OK},
		{"MaxPage, of one more", wide[:101], "", 100, wide[:100], "198.199.1.1", api.OK},
		{"MaxPage, of one less", wide[:99], "", 100, wide[:99], "", api.OK},
		{"MaxPage, behind a cursor", wide, "198.199.1.1", 100, wide[100:200], "398.399.1.1", api.OK},
		{"above MaxPage, up to the end", wide, "398.399.1.1", 120, wide[200:], "", api.OK},
		{"n below 1, behind a cursor", wide, "398.399.1.1", -5, wide[200:201], "400.401.1.1", api.OK},
	})
}

func TestOfCursors(t *testing.T) {
	l := five()
	checkOf(t, []paged{
		{"the first one's", l, "1.9.1.1", 9, l[1:], "", api.OK},
		{"the first one's, fewer than there are", l, "1.9.1.1", 3, l[1:4], "3.6.1.1", api.OK},
		{"the first one's, as many as there are", l, "1.9.1.1", 4, l[1:], "", api.OK},
		{"a middle one's", l, "3.5.2.1", 9, l[3:], "", api.OK},
		{"a middle one's, one", l, "3.5.2.1", 1, l[3:4], "3.6.1.1", api.OK},
		{"the last but one's", l, "3.6.1.1", 1, l[4:], "", api.OK},
		{"the last one's", l, "8.9.1.4", 9, nil, "", api.OK},
		{"ahead of all, by From", l, "0.99.9.4", 2, l[:2], "3.5.1.1", api.OK},
		{"ahead of all, by To", l, "1.8.9.9", 2, l[:2], "3.5.1.1", api.OK},
		{"ahead of all, by N", l, "1.9.0.9", 2, l[:2], "3.5.1.1", api.OK},
		{"ahead of all, by Status", l, "1.9.1.0", 2, l[:2], "3.5.1.1", api.OK},
		{"of noughts", l, "0.0.0.0", 9, l, "", api.OK},
		{"between two, by From", l, "2.0.0.0", 2, l[1:3], "3.5.2.1", api.OK},
		{"between two, by To", l, "3.4.9.9", 2, l[1:3], "3.5.2.1", api.OK},
		{"between two, by N", l, "3.5.1.9", 2, l[2:4], "3.6.1.1", api.OK},
		{"between two, by Status", l, "3.5.2.0", 2, l[2:4], "3.6.1.1", api.OK},
		{"between two, without time", l, "7.7.1.1", 2, l[4:], "", api.OK},
		{"between two, ends ahead of its beginning", l, "8.2.9.9", 2, l[4:], "", api.OK},
		{"behind all, by Status", l, "8.9.1.5", 9, nil, "", api.OK},
		{"behind all, by N", l, "8.9.2.0", 9, nil, "", api.OK},
		{"behind all, by To", l, "8.10.0.0", 9, nil, "", api.OK},
		{"behind all, by From", l, "10.0.0.0", 9, nil, "", api.OK},
		{"the greatest of all", l, key(stay(forever, forever, forever, forever)), 9, nil, "", api.OK},
		{"of one alone, its own", l[:1], "1.9.1.1", 9, nil, "", api.OK},
		{"of one alone, the empty one", l[:1], "", 1, l[:1], "", api.OK},
		{"of none, the empty one", nil, "", 5, nil, "", api.OK},
		{"of an empty row, the empty one", []hist.Stay{}, "", 5, nil, "", api.OK},
		{"of none, a Key", nil, "3.9.1.2", 5, nil, "", api.OK},
		{"of the greatest row, its last but one", mixed(), "1099511627775.1099511627776.0.0", 5, mixed()[9:], "", api.OK},
	})
	for _, text := range noCursors() {
		for _, row := range [][]hist.Stay{nil, l[:1], l} {
			checkOf(t, []paged{{"no Key: " + text, row, text, 9, nil, "", api.ErrPageCursor}})
		}
	}
}

// noRows are those that do not rise, or have a stay without a Key.
func noRows() map[string][]hist.Stay {
	return map[string][]hist.Stay{
		"falls, by From":                       stays(3, 5, 1, 1, 2, 5, 1, 1),
		"falls, by To":                         stays(3, 5, 1, 1, 3, 4, 1, 1),
		"falls, by N":                          stays(3, 5, 2, 1, 3, 5, 1, 1),
		"falls, by Status":                     stays(3, 5, 1, 2, 3, 5, 1, 1),
		"falls at its end":                     stays(1, 2, 1, 1, 3, 5, 1, 1, 6, 7, 1, 1, 5, 7, 1, 1),
		"falls in its middle":                  stays(1, 2, 1, 1, 6, 7, 1, 1, 5, 7, 1, 1, 8, 9, 1, 1),
		"has the same stay twice":              stays(3, 5, 1, 1, 3, 5, 1, 1),
		"has the same stay twice, behind some": stays(1, 2, 1, 1, 3, 5, 1, 1, 3, 5, 1, 1, 8, 9, 1, 1),
		"has one without time":                 stays(3, 3, 1, 1),
		"has one without time at its end":      stays(1, 2, 1, 1, 3, 3, 1, 1),
		"has one that ends ahead of itself":    stays(4, 3, 1, 1),
		"has one of zeros":                     stays(0, 0, 0, 0),
		"has a From below 0":                   stays(-1, 3, 1, 1),
		"has a To above Forever":               stays(1, forever+1, 1, 1),
		"has an N below 0":                     stays(1, 3, -1, 1),
		"has an N above Forever":               stays(1, 3, forever+1, 1),
		"has a Status below 0":                 stays(1, 3, 1, -1),
		"has a Status above Forever":           stays(1, 3, 1, forever+1),
		"has one without a Key at its end":     stays(1, 3, 1, 1, 4, 5, 1, -1),
		"has one without a Key in its middle":  stays(1, 3, 1, 1, 4, 5, -1, 1, 6, 7, 1, 1),
		"has a From and a To above Forever":    stays(1, 3, 1, 1, forever+1, forever+2, 1, 1),
		"has the least and greatest":           stays(least, greatest, least, greatest),
		"has no Key far behind the page":       append(long(150), stay(400, 401, 1, -1)),
		"falls far behind the page":            append(long(150), stay(0, 401, 1, 1)),
	}
}

func TestOfNoRow(t *testing.T) {
	for what, l := range noRows() {
		if row(l) {
			t.Fatalf("the test itself: it is a row: %s", what)
		}
		// A cursor behind the fault, and a page ahead of it, make no row of it.
		for _, cursor := range []string{"", "0.0.0.0", "3.5.1.1", "900.901.1.1", "x"} {
			for _, n := range []int{-1, 1, 2, 100, greatest} {
				checkOf(t, []paged{{"a row that " + what + ", " + cursor, l, cursor, n, nil, "", api.ErrPageCursor}})
			}
		}
	}
}

func TestOfEdges(t *testing.T) {
	for _, l := range [][]hist.Stay{nil, five(), five()[:1], mixed(), mixed()[:2], long(101)} {
		for _, cursor := range append(cursors(l), noCursors()...) {
			for _, n := range []int{least, 0, 1, 2, len(l) - 1, len(l), len(l) + 1, 99, 100, 101, greatest} {
				want, next, err := of(l, cursor, n)
				checkOf(t, []paged{{"of the chapter's words", l, cursor, n, want, next, err}})
			}
		}
	}
}

func TestOfByChance(t *testing.T) {
	r := rand.New(rand.NewPCG(14, 1))
	full, more := 0, 0
	for range 20000 {
		l := someRow(r, 12)
		if r.IntN(10) == 0 && len(l) > 1 {
			i, j := r.IntN(len(l)), r.IntN(len(l))
			l[i], l[j] = l[j], l[i]
		}
		cursor, n := someCursor(r, 12), r.IntN(16)-1
		want, next, err := of(l, cursor, n)
		got, leads, no := page.Of(l, cursor, n)
		if !slices.Equal(got, want) || leads != next || no != err {
			t.Fatalf("P14.2: Of %v, %q, %d: %v, %q, %v; should be %v, %q, %v", l, cursor, n, got, leads, no, want, next, err)
		}
		if len(got) > 0 {
			full++
		}
		if leads != "" {
			more++
		}
	}
	if full < 5000 || more < 2500 {
		t.Errorf("few pages have something, or more behind them: %d, %d", full, more)
	}
}
