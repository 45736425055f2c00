package digits_test

import (
	"fmt"
	"math"
	"slices"
	"strings"
	"testing"

	"afterglow/api"
	"afterglow/digits"
)

const most = 12 // digits that Hex writes

// hex is what the document asks of Hex, written by another hand.
func hex(n, wide int) string {
	if wide < 1 || wide > most || n < 0 {
		return ""
	}
	if s := fmt.Sprintf("%0*x", wide, n); len(s) == wide {
		return s
	}
	return ""
}

// numbers are small ones, those around every power of two and of ten, and the greatest, on both sides of 0.
func numbers() []int {
	var l []int
	for n := range 300 {
		l = append(l, n)
	}
	for bit := range 63 {
		l = append(l, 1<<bit-1, 1<<bit, 1<<bit+1)
	}
	for ten := 1; ten < math.MaxInt/10; ten *= 10 {
		l = append(l, ten-1, ten, ten+1)
	}
	l = append(l, 0x123456789abc, 1234567890, math.MaxInt-1, math.MaxInt)
	for _, n := range slices.Clone(l) {
		l = append(l, -n)
	}
	return append(l, math.MinInt, math.MinInt+1)
}

// rows are all rows of up to so many of the texts, the shorter ones first.
func rows(texts []string, long int) [][]string {
	all := [][]string{nil}
	for at := 0; len(all[at]) < long; at++ {
		for _, s := range texts {
			all = append(all, append(slices.Clone(all[at]), s))
		}
	}
	return all
}

// texts are all texts of up to so many bytes of the alphabet.
func texts(alphabet string, long int) []string {
	var all []string
	for _, row := range rows(strings.Split(alphabet, ""), long) {
		all = append(all, strings.Join(row, ""))
	}
	return all
}

// isWord is the document's word, spelt out.
func isWord(s string) bool {
	for _, c := range []byte(s) {
		if c <= 32 || c >= 127 {
			return false
		}
	}
	return len(s) >= 1
}

func one(c int) string { return string([]byte{byte(c)}) }

func refusesHex(t *testing.T, s string) {
	t.Helper()
	if n, is := digits.Unhex(s); n != 0 || is {
		t.Errorf("P2.1: Unhex: %q: %d, %v", s, n, is)
	}
}

func refusesDec(t *testing.T, s string) {
	t.Helper()
	if n, is := digits.Undec(s); n != 0 || is {
		t.Errorf("P2.2: Undec: %q: %d, %v", s, n, is)
	}
}

func TestHex(t *testing.T) {
	for _, n := range numbers() {
		for wide := -2; wide <= 20; wide++ {
			if got, want := digits.Hex(n, wide), hex(n, wide); got != want {
				t.Errorf("P2.1: Hex: %d, %d: %q", n, wide, got)
			}
		}
	}
}

func TestHexEdges(t *testing.T) {
	for _, x := range []struct {
		n, wide int
		want    string
	}{
		{255, 4, "00ff"},
		{0, 0, ""}, {0, 1, "0"}, {0, 12, "000000000000"}, {0, 13, ""}, {0, 16, ""},
		{15, 1, "f"}, {16, 1, ""}, {9, 1, "9"}, {10, 1, "a"},
		{255, 2, "ff"}, {256, 2, ""}, {65535, 4, "ffff"}, {65536, 4, ""},
		{1<<48 - 1, 12, "ffffffffffff"}, {1 << 48, 12, ""}, {1 << 48, 13, ""},
		{0x123456789abc, 12, "123456789abc"}, {0xdef, 5, "00def"},
		{-1, 1, ""}, {-1, 12, ""}, {math.MinInt, 12, ""}, {math.MaxInt, 12, ""}, {math.MaxInt, 16, ""},
		{1, -1, ""}, {1, math.MinInt, ""}, {1, math.MaxInt, ""}, {0, 1 << 62, ""}, {-1, -1, ""},
	} {
		if got := digits.Hex(x.n, x.wide); got != x.want {
			t.Errorf("P2.1: Hex: %d, %d: %q", x.n, x.wide, got)
		}
	}
}

func TestUnhex(t *testing.T) {
	for _, x := range []struct {
		s    string
		want int
	}{
		{"0", 0}, {"f", 15}, {"00", 0}, {"00ff", 255}, {"ff", 255}, {"10", 16},
		{"000000000000", 0}, {"000000000001", 1}, {"123456789abc", 0x123456789abc}, {"ffffffffffff", 1<<48 - 1},
	} {
		if n, is := digits.Unhex(x.s); n != x.want || !is {
			t.Errorf("P2.1: Unhex: %q: %d, %v", x.s, n, is)
		}
	}
	for _, s := range []string{"", "FF", "aF", "0x1", "0X1", "g", "+1", "-1", " 1", "1 ", "1_0", "1.", "\u0661", "0000000000000", "1000000000000", "fffffffffffff", strings.Repeat("0", 16), strings.Repeat("f", 16), strings.Repeat("0", 1<<16)} {
		refusesHex(t, s)
	}
}

func TestUnhexByByte(t *testing.T) {
	for c := range 256 {
		want := strings.Index("0123456789abcdef", one(c))
		for at := range most {
			s := strings.Repeat("0", at) + one(c) + strings.Repeat("0", most-1-at)
			if want < 0 {
				refusesHex(t, s)
			} else if n, is := digits.Unhex(s); n != want<<(4*(most-1-at)) || !is {
				t.Errorf("P2.1: Unhex: %q: %d, %v", s, n, is)
			}
		}
	}
}

func TestDec(t *testing.T) {
	for _, n := range numbers() {
		want := ""
		if n >= 0 && n <= api.Forever {
			want = fmt.Sprint(n)
		}
		if got := digits.Dec(n); got != want {
			t.Errorf("P2.2: Dec: %d: %q", n, got)
		}
	}
}

func TestDecEdges(t *testing.T) {
	for n, want := range map[int]string{0: "0", 7: "7", 10: "10", 20: "20", -1: "", math.MinInt: "", math.MaxInt: "", api.Forever - 1: "1099511627775", api.Forever: "1099511627776", api.Forever + 1: ""} {
		if got := digits.Dec(n); got != want {
			t.Errorf("P2.2: Dec: %d: %q", n, got)
		}
	}
}

func TestUndec(t *testing.T) {
	for s, want := range map[string]int{"0": 0, "7": 7, "10": 10, "100": 100, "1234567890": 1234567890, "999999999999": 999999999999, "1000000000000": 1000000000000, "1099511627775": api.Forever - 1, "1099511627776": api.Forever} {
		if n, is := digits.Undec(s); n != want || !is {
			t.Errorf("P2.2: Undec: %q: %d, %v", s, n, is)
		}
	}
	for _, s := range []string{"", "00", "07", "000", "01099511627776", "-0", "-7", "+7", " 7", "7 ", "7\n", "a", "f", "1f", "0x7", "1e3", "1.0", "1_0", "\u0661", "\xff", "1099511627777", "1099511627780", "1100000000000", "9999999999999", "10995116277760"} {
		refusesDec(t, s)
	}
}

// TestUndecWrapsNoRound has texts whose numbers, cut off at 64 bits, would be times.
func TestUndecWrapsNoRound(t *testing.T) {
	for _, s := range []string{"9223372036854775808", "18446744073709551616", "18446744073709551617", "18446744074709551616", "340282366920938463463374607431768211456", "99999999999999999999", "1" + strings.Repeat("0", 64), "1" + strings.Repeat("0", 1<<16), strings.Repeat("9", 1<<16)} {
		refusesDec(t, s)
	}
}

func TestUndecByByte(t *testing.T) {
	for c := range 256 {
		want := strings.Index("0123456789", one(c))
		for tail, place := range map[string]int{"": 1, "0": 10, "00000": 100000} {
			s := "7" + one(c) + tail
			if want < 0 {
				refusesDec(t, s)
				refusesDec(t, one(c)+tail)
			} else if n, is := digits.Undec(s); n != (70+want)*place || !is {
				t.Errorf("P2.2: Undec: %q: %d, %v", s, n, is)
			}
		}
	}
}

func TestLine(t *testing.T) {
	if s := digits.Line(); s != "" {
		t.Errorf("P2.3: Line of none: %q", s)
	}
	if s := digits.Line("put", "1", "~!"); s != "put 1 ~!" {
		t.Errorf("P2.3: Line, one by one: %q", s)
	}
	for _, row := range rows([]string{"", "a", "bc", "!", "~", " ", "a b", "a ", "\x7f", "\xff"}, 4) {
		want := strings.Join(row, " ")
		for _, s := range row {
			if !isWord(s) {
				want = ""
			}
		}
		if got := digits.Line(row...); got != want {
			t.Errorf("P2.3: Line: %q: %q", row, got)
		}
	}
}

func TestLineByByte(t *testing.T) {
	for c := range 256 {
		for _, s := range []string{one(c), one(c) + "k", "k" + one(c), "k" + one(c) + "k"} {
			want := ""
			if 33 <= c && c <= 126 {
				want = "put " + s
			}
			if got := digits.Line("put", s); got != want {
				t.Errorf("P2.3: Line: byte %d of %q: %q", c, s, got)
			}
		}
	}
}

func TestSplit(t *testing.T) {
	for _, x := range []struct {
		s    string
		want []string
	}{
		{"", nil}, {" ", nil}, {"  ", nil}, {"a", []string{"a"}}, {"ab", []string{"ab"}}, {"a b c", []string{"a", "b", "c"}},
		{" a", nil}, {"a ", nil}, {" a b", nil}, {"a b ", nil}, {"a  b", nil}, {"a b  c", nil},
		{"a\tb", nil}, {"a\nb", nil}, {"a b\n", nil}, {"a\u00a0b", nil}, {"\u00e4", nil}, {"a \x00", nil},
		{"a a a", []string{"a", "a", "a"}}, {"! ~", []string{"!", "~"}}, {"0 - 3.9.1.2", []string{"0", "-", "3.9.1.2"}},
	} {
		if got := digits.Split(x.s); !slices.Equal(got, x.want) {
			t.Errorf("P2.3: Split: %q: %q", x.s, got)
		}
	}
}

func TestSplitByByte(t *testing.T) {
	for c := range 256 {
		var want []string
		switch {
		case c == 32:
			want = []string{"k", "m"}
		case 33 <= c && c <= 126:
			want = []string{"k" + one(c) + "m"}
		}
		if got := digits.Split("k" + one(c) + "m"); !slices.Equal(got, want) {
			t.Errorf("P2.3: Split: byte %d within: %q", c, got)
		}
		want = nil
		if 33 <= c && c <= 126 {
			want = []string{"k", one(c)}
		}
		if got := digits.Split("k " + one(c)); !slices.Equal(got, want) {
			t.Errorf("P2.3: Split: byte %d alone: %q", c, got)
		}
	}
}

func TestLongLine(t *testing.T) {
	long := strings.Repeat("w", 1<<16)
	row := slices.Repeat([]string{"a", long, "bc"}, 50)
	line := digits.Line(row...)
	if line != strings.Join(row, " ") {
		t.Errorf("P2.3: Line of long words: %d bytes", len(line))
	}
	if got := digits.Split(line); !slices.Equal(got, row) {
		t.Errorf("P2.3: Split of a long line: %d words", len(got))
	}
	if got := digits.Split(line + " "); len(got) != 0 {
		t.Errorf("P2.3: Split of a long line with a blank behind: %d words", len(got))
	}
}

func TestNumbersReadAsWritten(t *testing.T) {
	for _, n := range numbers() {
		for wide := range most + 2 {
			s := digits.Hex(n, wide)
			if got, is := digits.Unhex(s); is != (s != "") || is && got != n {
				t.Errorf("P2.4: %d, %d: %q: %d, %v", n, wide, s, got, is)
			}
		}
		s := digits.Dec(n)
		if got, is := digits.Undec(s); is != (s != "") || is && got != n {
			t.Errorf("P2.4: %d: %q: %d, %v", n, s, got, is)
		}
	}
}

func TestNumbersWrittenAsRead(t *testing.T) {
	for _, s := range texts("019afFg -", 5) {
		if n, is := digits.Unhex(s); is && digits.Hex(n, len(s)) != s {
			t.Errorf("P2.4: Unhex: %q: %d", s, n)
		}
		if n, is := digits.Undec(s); is && digits.Dec(n) != s {
			t.Errorf("P2.4: Undec: %q: %d", s, n)
		}
	}
	for _, n := range numbers() {
		if s := fmt.Sprint(n); digits.Dec(n) != s {
			refusesDec(t, s)
		}
		if s := fmt.Sprintf("%x", n); digits.Hex(n, len(s)) != s {
			refusesHex(t, s)
		}
	}
}

func TestLinesReadAsWritten(t *testing.T) {
	for _, row := range rows([]string{"a", "bc", "!", "~", "0", ""}, 5) {
		s := digits.Line(row...)
		if got := digits.Split(s); s != "" && !slices.Equal(got, row) || s == "" && len(got) != 0 {
			t.Errorf("P2.4: Line: %q: %q: %q", row, s, got)
		}
	}
}

func TestLinesWrittenAsRead(t *testing.T) {
	for _, s := range texts("a! ~\t\x7f", 6) {
		l := digits.Split(s)
		if len(l) > 0 && digits.Line(l...) != s {
			t.Errorf("P2.4: Split: %q: %q", s, l)
		}
		// What is made of words and single blanks has its words: Split may not refuse it.
		is := !strings.ContainsAny(s, "\t\x7f") && !slices.Contains(strings.Split(s, " "), "")
		if (len(l) > 0) != is {
			t.Errorf("P2.4: Split: %q: %q", s, l)
		}
	}
}

func TestGivenStays(t *testing.T) {
	for _, row := range rows([]string{"b", "a", "", " "}, 4) {
		whole := append(slices.Clone(row), "kept")
		digits.Line(whole[:len(row)]...)
		if !slices.Equal(whole, append(slices.Clone(row), "kept")) {
			t.Fatalf("R5: %q became %q", row, whole)
		}
	}
}

func TestToldIsTheCallersOwn(t *testing.T) {
	for _, s := range []string{"a", "a b", "a b c"} {
		first, second := digits.Split(s), digits.Split(s)
		for i := range first {
			first[i] = "written"
		}
		_ = append(first[:0], "x")
		if digits.Line(second...) != s || digits.Line(digits.Split(s)...) != s {
			t.Errorf("R6: written into what was told of %q: %q", s, second)
		}
	}
	row := []string{"a", "b"}
	line := digits.Line(row...)
	row[0] = "written"
	if line != "a b" {
		t.Errorf("R6: written into what was given: %q", line)
	}
}
