package crc_test

import (
	"fmt"
	"hash/crc32"
	"slices"
	"strings"
	"testing"

	"afterglow/crc"
	"afterglow/digits"
)

const ones = ^uint32(0)

// becomes is the document's eight turns, spelt out.
func becomes(c int) uint32 {
	n := uint32(c)
	for range 8 {
		lowest := n % 2
		n /= 2
		if lowest == 1 {
			n ^= 2197175160
		}
	}
	return n
}

// step is the document's step, spelt out bit by bit.
func step(sum uint32, c int) uint32 {
	at := 0
	for bit := range 8 {
		if c>>bit&1 != int(sum>>bit&1) {
			at += 1 << bit
		}
	}
	next := sum / 256
	for bit := range 32 {
		if becomes(at)>>bit&1 == 1 {
			next ^= 1 << bit
		}
	}
	return next
}

// known is the sum by the library's hand.
func known(s string) uint32 {
	return crc32.Checksum([]byte(s), crc32.MakeTable(crc32.Castagnoli))
}

// sums are 0, that of all bits 1, all with one bit 1 or one bit 0, and some others.
func sums() []uint32 {
	l := []uint32{0, ones, 255, 256, ones - 255, 2197175160, 0x12345678, 0xdeadbeef}
	for bit := range 32 {
		l = append(l, 1<<bit, ^(1 << bit))
	}
	return l
}

// texts are ones of all kinds: empty, digits, the bytes at both ends, every byte once, long ones.
func texts() []string {
	l := []string{"", "a", "hi", "123456789", "\x00", "\xff", "\x00\xff", "\xff\x00", "\x00\x00\x00\x00", "\xff\xff\xff\xff", "\u00e4", "a0002hi", strings.Repeat("\x00", 32), strings.Repeat("\xff", 32), strings.Repeat("ab", 1000)}
	var every []byte
	for c := range 256 {
		l = append(l, string([]byte{byte(c)}))
		every = append(every, byte(c))
	}
	return append(l, string(every))
}

// noughts are texts of whose sums the first digits are noughts, up to all eight.
func noughts() map[string]string {
	return map[string]string{
		"44":               "08dcda23",
		"319":              "0011fd1e",
		"40521":            "0006e192",
		"49208":            "0000a787",
		"93130":            "00000d48",
		"16158892":         "000000e9",
		"157604789":        "00000008",
		"Rp\xda,":          "0fffffff",
		"Z\xed\x0c\x9e":    "00000001",
		"\xab\x9b\xe0\x9b": "00000000",
		"":                 "00000000",
	}
}

func TestTable(t *testing.T) {
	table := crc.Table()
	for c := range 256 {
		if table[c] != becomes(c) {
			t.Errorf("P3.1: Table: byte %d: %08x", c, table[c])
		}
	}
	if table != *crc32.MakeTable(crc32.Castagnoli) {
		t.Error("P3.1: Table: not that of the library")
	}
}

func TestTableEdges(t *testing.T) {
	table := crc.Table()
	for c, want := range map[int]uint32{0: 0, 1: 0xf26b8303, 128: 2197175160, 255: 0xad7d5351} {
		if table[c] != want {
			t.Errorf("P3.1: Table: byte %d: %08x", c, table[c])
		}
	}
}

func TestStep(t *testing.T) {
	for _, sum := range sums() {
		for c := range 256 {
			if got, want := crc.Step(sum, byte(c)), step(sum, c); got != want {
				t.Errorf("P3.2: Step: %08x, %d: %08x", sum, c, got)
			}
		}
	}
}

func TestStepEdges(t *testing.T) {
	for _, x := range []struct {
		sum  uint32
		c    byte
		want uint32
	}{
		{0, 0, 0},
		{0, 1, 0xf26b8303},
		{0, 128, 0x82f63b78},
		{0, 255, 0xad7d5351},
		{ones, 255, 0x00ffffff},
		{ones, 0, 0x00ffffff ^ 0xad7d5351},
		{0xffffff00, 0, 0x00ffffff},
		{0x100, 0, 1},
		{0xff, 0xff, 0},
		{0x80, 0, 0x82f63b78},
	} {
		if got := crc.Step(x.sum, x.c); got != x.want {
			t.Errorf("P3.2: Step: %08x, %d: %08x", x.sum, x.c, got)
		}
	}
}

func TestStepIsByTheTable(t *testing.T) {
	table := crc.Table()
	for _, sum := range sums() {
		for c := range 256 {
			if got := crc.Step(sum, byte(c)); got != sum>>8^table[byte(c)^byte(sum)] {
				t.Errorf("P3.2: Step: %08x, %d: %08x", sum, c, got)
			}
		}
	}
}

func TestSum(t *testing.T) {
	for _, s := range texts() {
		if got, want := crc.Sum(s), known(s); got != want {
			t.Errorf("P3.2: Sum: %q: %08x", s, got)
		}
	}
}

func TestSumIsBySteps(t *testing.T) {
	for _, s := range texts() {
		sum := ones
		for _, c := range []byte(s) {
			sum = crc.Step(sum, c)
		}
		if got := crc.Sum(s); got != ^sum {
			t.Errorf("P3.2: Sum: %q: %08x", s, got)
		}
	}
}

func TestSumEdges(t *testing.T) {
	if crc.Sum() != 0 || crc.Sum(nil...) != 0 || crc.Sum([]string{}...) != 0 {
		t.Error("P3.2: Sum of no texts")
	}
	for s, want := range map[string]uint32{
		"":                         0,
		"\xab\x9b\xe0\x9b":         0,
		"\xff\xff\xff\xff":         ones,
		"\xd5M\xf0M":               1 << 31,
		"123456789":                0xe3069283,
		"a":                        0xc1d04330,
		strings.Repeat("\x00", 32): 0x8a9136aa,
		strings.Repeat("\xff", 32): 0x62a8ab43,
	} {
		if got := crc.Sum(s); got != want {
			t.Errorf("P3.2: Sum: %q: %08x", s, got)
		}
	}
}

func TestText(t *testing.T) {
	if got := crc.Text("123456789"); got != "e3069283" {
		t.Errorf("P3.2: Text: %s", got)
	}
	if got := crc.Text("\xff\xff\xff\xff"); got != "ffffffff" {
		t.Errorf("P3.2: Text of all bits 1: %s", got)
	}
	for _, got := range []string{crc.Text(), crc.Text(nil...), crc.Text("", "")} {
		if got != "00000000" {
			t.Errorf("P3.2: Text of nothing: %q", got)
		}
	}
	for _, s := range texts() {
		if got, want := crc.Text(s), fmt.Sprintf("%08x", known(s)); got != want {
			t.Errorf("P3.2: Text: %q: %q", s, got)
		}
	}
}

func TestTextHasEightDigits(t *testing.T) {
	for s, want := range noughts() {
		if got := crc.Text(s); got != want {
			t.Errorf("P3.2: Text: %q: %q", s, got)
		}
	}
	for n := range 5000 {
		s := fmt.Sprint(n)
		text := crc.Text(s)
		if got, is := digits.Unhex(text); len(text) != 8 || !is || uint32(got) != crc.Sum(s) {
			t.Errorf("P3.2: Text: %q: %q", s, text)
		}
	}
}

// alike fails, if the parts have another sum than the text that they are together.
func alike(t *testing.T, parts ...string) {
	t.Helper()
	whole := strings.Join(parts, "")
	if got, want := crc.Sum(parts...), crc.Sum(whole); got != want || got != known(whole) {
		t.Errorf("P3.3: Sum: %q: %08x, not %08x", parts, got, want)
	}
	if got, want := crc.Text(parts...), crc.Text(whole); got != want || want != fmt.Sprintf("%08x", known(whole)) {
		t.Errorf("P3.3: Text: %q: %q, not %q", parts, got, want)
	}
}

func TestCutAtEachPlace(t *testing.T) {
	for _, s := range append(texts(), "44", "157604789", "\xab\x9b\xe0\x9b") {
		for at := range len(s) + 1 {
			alike(t, s[:at], s[at:])
		}
	}
	for _, s := range []string{"123456789", "\x00\xff\x00\xff\xff", "157604789", "a0002hi"} {
		for at := range len(s) + 1 {
			for then := at; then <= len(s); then++ {
				alike(t, s[:at], s[at:then], s[then:])
			}
		}
		alike(t, strings.Split(s, "")...)
	}
}

func TestEmptyTextsBetween(t *testing.T) {
	for _, row := range [][]string{
		{""}, {"", ""}, {"", "", ""},
		{"", "1234", "56789"}, {"1234", "", "56789"}, {"1234", "56789", ""},
		{"", "1234", "", "", "56789", ""},
		{"", "\x00", "", "\xff", ""},
	} {
		alike(t, row...)
	}
}

func TestOrderTells(t *testing.T) {
	for _, x := range [][2]string{{"a", "b"}, {"1234", "56789"}, {"\x00", "\xff"}} {
		if crc.Sum(x[0], x[1]) == crc.Sum(x[1], x[0]) {
			t.Errorf("P3.3: Sum: %q in either order", x)
		}
	}
}

func TestLongTexts(t *testing.T) {
	long := strings.Repeat("0123456789abcdef\x00\xff", 1<<16)
	if got := crc.Sum(long); got != known(long) {
		t.Errorf("P3.2: Sum of a long text: %08x", got)
	}
	alike(t, long[:1], long[1:1<<19], "", long[1<<19:])
	alike(t, slices.Repeat([]string{"", "k", "7\xff"}, 1<<14)...)
}

func TestGivenStays(t *testing.T) {
	whole := []string{"b", "", "a", "\xff", "kept"}
	given := slices.Clone(whole)
	crc.Sum(given[:4]...)
	crc.Text(given[:4]...)
	if !slices.Equal(given, whole) {
		t.Errorf("R5: %q became %q", whole, given)
	}
}

func TestToldIsTheCallersOwn(t *testing.T) {
	first, second := crc.Table(), crc.Table()
	for c := range first {
		first[c] = 7
	}
	if second != crc.Table() || second[1] != 0xf26b8303 {
		t.Error("R6: written into the table that was told")
	}
	if crc.Step(0, 1) != 0xf26b8303 || crc.Text("123456789") != "e3069283" {
		t.Error("R6: a table that was written into is summed by")
	}
	row := []string{"1234", "56789"}
	text := crc.Text(row...)
	row[0] = "written"
	if text != "e3069283" {
		t.Errorf("R6: written into what was given: %q", text)
	}
}

func TestSameCallsTellTheSame(t *testing.T) {
	for _, s := range texts() {
		first := crc.Text(s)
		crc.Sum("other")
		crc.Step(7, 7)
		if got := crc.Text(s); got != first {
			t.Errorf("R7: Text: %q: %q, then %q", s, first, got)
		}
	}
}
