package frame_test

import (
	"fmt"
	"hash/crc32"
	"slices"
	"strings"
	"testing"

	"afterglow/api"
	"afterglow/crc"
	"afterglow/digits"
	"afterglow/frame"
)

const (
	mark = "\xfe"
	hi   = "\xfea0002hia197ef60" // the document's example
	most = 2000                  // bytes of a body
	rest = 14                    // bytes of a frame beside its body
)

// sum is the eight digits by the library's hand.
func sum(s string) string {
	return fmt.Sprintf("%08x", crc32.Checksum([]byte(s), crc32.MakeTable(crc32.Castagnoli)))
}

// text is the document's frame, spelt out.
func text(f frame.Frame) string {
	s := fmt.Sprintf("%c%04x%s", f.Kind, len(f.Body), f.Body)
	return mark + s + sum(s)
}

// stands: may that byte stand at that place of a frame with a body so long?
func stands(c byte, at, long int) bool {
	const lower = "abcdefghijklmnopqrstuvwxyz"
	switch {
	case at == 0:
		return c == 254
	case at == 1:
		return strings.IndexByte(lower, c) >= 0
	case at < 6 || at >= 6+long:
		return strings.IndexByte("0123456789"+lower[:6], c) >= 0
	}
	return c > 31 && c < 127
}

// next is the document's Next, byte by byte.
func next(s string) (frame.Frame, int, api.Errno) {
	long := 0
	for at := 0; at < rest+long; at++ {
		if at == len(s) {
			return frame.Frame{}, 0, api.ErrFrameShort
		}
		if !stands(s[at], at, long) {
			return frame.Frame{}, 0, api.ErrFrameForm
		}
		if at == 5 {
			fmt.Sscanf(s[2:6], "%x", &long)
		}
		if long > most {
			return frame.Frame{}, 0, api.ErrFrameForm
		}
	}
	end := rest + long
	if sum(s[1:end-8]) != s[end-8:end] {
		return frame.Frame{}, 0, api.ErrFrameSum
	}
	return frame.Frame{Kind: s[1], Body: s[6 : end-8]}, end, api.OK
}

// scan is the document's Scan, by that Next.
func scan(s string) ([]frame.Frame, int) {
	var l []frame.Frame
	at := 0
	for f, n, e := next(s); e == api.OK; f, n, e = next(s[at:]) {
		l = append(l, f)
		at += n
	}
	return l, at
}

// find is the document's Find, by that Next.
func find(s string) []frame.Frame {
	var l []frame.Frame
	for at := 0; at <= len(s); at++ {
		if f, _, e := next(s[at:]); e == api.OK {
			l = append(l, f)
		}
	}
	return l
}

// short is what of a long text is told in a failure.
func short(s string) string {
	if len(s) > 60 {
		return fmt.Sprintf("%q.. (%d bytes)", s[:60], len(s))
	}
	return fmt.Sprintf("%q", s)
}

func one(c int) string { return string([]byte{byte(c)}) }

// frames are of both ends of the kinds, of bodies at the edges, and of bodies that look like frames' parts.
func frames() []frame.Frame {
	every := ""
	for c := 32; c <= 126; c++ {
		every += one(c)
	}
	return []frame.Frame{
		{Kind: 'a', Body: "hi"},
		{Kind: 'a'},
		{Kind: 'z'},
		{Kind: 'm', Body: " "},
		{Kind: 'o', Body: "5 ann 2 1"},
		{Kind: 'f', Body: "~"},
		{Kind: 'b', Body: "a0002hi" + sum("a0002hi")},
		{Kind: 'c', Body: "00000000"},
		{Kind: 'y', Body: every},
	}
}

// long are frames of bodies around the greatest length.
func long() []frame.Frame {
	return []frame.Frame{
		{Kind: 'a', Body: strings.Repeat("x", 255)},
		{Kind: 'a', Body: strings.Repeat("x", 256)},
		{Kind: 'k', Body: strings.Repeat("~ ", 999) + "q"},
		{Kind: 'z', Body: strings.Repeat("0f", 1000)},
	}
}

// together are the texts of all of them, and where each ends.
func together(t *testing.T, l []frame.Frame) (string, []int) {
	t.Helper()
	var s string
	var ends []int
	for _, f := range l {
		s += packed(t, f)
		ends = append(ends, len(s))
	}
	return s, ends
}

// packed is the frame's text, which has to be the document's.
func packed(t *testing.T, f frame.Frame) string {
	t.Helper()
	s, e := frame.Pack(f)
	if e != api.OK || s != text(f) {
		t.Errorf("P4.1: Pack: %c, %s: %s, %d", f.Kind, short(f.Body), short(s), e)
	}
	return s
}

// refusesPack fails, if Pack tells another error than that, or something beside it.
func refusesPack(t *testing.T, f frame.Frame, want api.Errno) {
	t.Helper()
	if s, e := frame.Pack(f); e != want || s != "" {
		t.Errorf("P4.1: Pack: byte %d, %s: %s, %d, not %d", f.Kind, short(f.Body), short(s), e, want)
	}
}

// refusesNext fails, if Next tells another error than that, or something beside it; as Scan does, if it tells a frame.
func refusesNext(t *testing.T, s string, want api.Errno) {
	t.Helper()
	if f, n, e := frame.Next(s); e != want || n != 0 || f != (frame.Frame{}) {
		t.Errorf("P4.2: Next: %s: %v, %d, %d, not %d", short(s), f, n, e, want)
	}
	if l, n := frame.Scan(s); len(l) != 0 || n != 0 {
		t.Errorf("P4.3: Scan: %s: %v, %d", short(s), l, n)
	}
}

// tellsNext fails, if Next tells anything but that frame, and its length.
func tellsNext(t *testing.T, s string, want frame.Frame, long int) {
	t.Helper()
	if f, n, e := frame.Next(s); e != api.OK || f != want || n != long {
		t.Errorf("P4.2: Next: %s: %v, %d, %d", short(s), f, n, e)
	}
}

// alike fails, if s is read otherwise than the document has it.
func alike(t *testing.T, s string) {
	t.Helper()
	wf, wn, we := next(s)
	if f, n, e := frame.Next(s); f != wf || n != wn || e != we {
		t.Errorf("P4.2: Next: %s: %v, %d, %d, not %v, %d, %d", short(s), f, n, e, wf, wn, we)
	}
	wl, wn := scan(s)
	if l, n := frame.Scan(s); !slices.Equal(l, wl) || n != wn {
		t.Errorf("P4.3: Scan: %s: %v, %d, not %v, %d", short(s), l, n, wl, wn)
	}
	if l, want := frame.Find(s), find(s); !slices.Equal(l, want) {
		t.Errorf("P4.3: Find: %s: %v, not %v", short(s), l, want)
	}
}

func TestPackExample(t *testing.T) {
	s := packed(t, frame.Frame{Kind: 'a', Body: "hi"})
	if s != hi || s != mark+"a0002hi"+crc.Text("a0002hi") {
		t.Errorf("P4.1: Pack: %q", s)
	}
	if s[0] != frame.Mark || len(s) != rest+2 {
		t.Errorf("P4.1: Pack: byte %d in front, %d bytes", s[0], len(s))
	}
	if s := packed(t, frame.Frame{Kind: 'a'}); s != "\xfea00008e90be7a" {
		t.Errorf("P4.1: Pack of an empty body: %q", s)
	}
}

func TestPack(t *testing.T) {
	for _, f := range append(frames(), long()...) {
		s := packed(t, f)
		parts := mark + one(int(f.Kind)) + digits.Hex(len(f.Body), 4) + f.Body
		if s != parts+crc.Text(parts[1:]) {
			t.Errorf("P4.1: Pack: %c, %s: %s", f.Kind, short(f.Body), short(s))
		}
	}
}

func TestPackKinds(t *testing.T) {
	for c := range 256 {
		for _, body := range []string{"", "hi"} {
			f := frame.Frame{Kind: byte(c), Body: body}
			if stands(f.Kind, 1, 0) {
				packed(t, f)
			} else {
				refusesPack(t, f, api.ErrFrameKind)
			}
		}
	}
	for _, c := range []byte{'a' - 1, 'z' + 1, 'A', 'Z', '0', 0, 254, 255} {
		refusesPack(t, frame.Frame{Kind: c, Body: "hi"}, api.ErrFrameKind)
	}
}

func TestPackLengths(t *testing.T) {
	for _, n := range []int{0, 1, 15, 16, 255, 256, 1999, 2000} {
		s := packed(t, frame.Frame{Kind: 'a', Body: strings.Repeat("x", n)})
		if len(s) != rest+n || s[2:6] != fmt.Sprintf("%04x", n) {
			t.Errorf("P4.1: Pack of %d bytes: %s", n, short(s))
		}
	}
	for _, n := range []int{2001, 2002, 4096, 65535, 65536, 65538, 1 << 20} {
		refusesPack(t, frame.Frame{Kind: 'a', Body: strings.Repeat("x", n)}, api.ErrFrameLong)
	}
}

func TestPackBytes(t *testing.T) {
	for c := range 256 {
		x := one(c)
		for _, body := range []string{x, x + "hi", "h" + x + "i", "hi" + x, strings.Repeat("x", most-1) + x, x + strings.Repeat("x", most-1)} {
			f := frame.Frame{Kind: 'a', Body: body}
			if 32 <= c && c <= 126 {
				packed(t, f)
			} else {
				refusesPack(t, f, api.ErrFrameByte)
			}
		}
	}
	for _, c := range []int{31, 127, 254, 255, 0, '\n'} {
		refusesPack(t, frame.Frame{Kind: 'a', Body: "h" + one(c)}, api.ErrFrameByte)
	}
	refusesPack(t, frame.Frame{Kind: 'a', Body: "\u00e4"}, api.ErrFrameByte)
	packed(t, frame.Frame{Kind: 'a', Body: " ~"})
}

func TestPackTellsTheFirstError(t *testing.T) {
	tooLong := strings.Repeat("x", most+1)
	for _, x := range []struct {
		f    frame.Frame
		want api.Errno
	}{
		{frame.Frame{Kind: 'A', Body: tooLong}, api.ErrFrameKind},
		{frame.Frame{Kind: 'A', Body: "\n"}, api.ErrFrameKind},
		{frame.Frame{Kind: 'A', Body: tooLong + "\n"}, api.ErrFrameKind},
		{frame.Frame{Kind: 'a', Body: tooLong + "\n"}, api.ErrFrameLong},
		{frame.Frame{Kind: 'a', Body: "\n" + tooLong}, api.ErrFrameLong},
		{frame.Frame{Kind: 'a', Body: strings.Repeat("\xfe", most+1)}, api.ErrFrameLong},
		{frame.Frame{Kind: 'a', Body: strings.Repeat("\xfe", most)}, api.ErrFrameByte},
		{frame.Frame{}, api.ErrFrameKind},
	} {
		refusesPack(t, x.f, x.want)
	}
}

func TestNext(t *testing.T) {
	tellsNext(t, hi, frame.Frame{Kind: 'a', Body: "hi"}, 16)
	for _, f := range append(frames(), long()...) {
		s := text(f)
		for _, behind := range []string{"", "x", mark, "\x00", "0", hi, s, s[:len(s)-1], "a197ef60", strings.Repeat("\xff", 3000)} {
			tellsNext(t, s+behind, f, len(s))
		}
	}
}

func TestNextCutOff(t *testing.T) {
	refusesNext(t, "", api.ErrFrameShort)
	for _, f := range append(frames(), long()...) {
		s := text(f)
		for at := range len(s) {
			refusesNext(t, s[:at], api.ErrFrameShort)
		}
	}
}

func TestNextWrongBytes(t *testing.T) {
	for _, f := range frames()[:5] {
		s := text(f)
		for at := range len(s) {
			for c := range 256 {
				if stands(byte(c), at, len(f.Body)) {
					continue
				}
				wrong := s[:at] + one(c)
				for _, behind := range []string{"", s[at+1:], s[at+1:] + s, "x", mark, s} {
					refusesNext(t, wrong+behind, api.ErrFrameForm)
				}
			}
		}
	}
}

func TestNextEachByte(t *testing.T) {
	for at := range len(hi) {
		for c := range 256 {
			alike(t, hi[:at]+one(c))
			alike(t, hi[:at]+one(c)+hi[at+1:])
			alike(t, hi[:at]+one(c)+hi[at:])
			alike(t, hi[:at]+one(c)+hi)
		}
		alike(t, hi[:at]+hi[at+1:])
	}
}

func TestNextBodyEdges(t *testing.T) {
	for c, want := range map[int]api.Errno{31: api.ErrFrameForm, 32: api.OK, 126: api.OK, 127: api.ErrFrameForm, 254: api.ErrFrameForm, 255: api.ErrFrameForm} {
		for _, body := range []string{one(c), "h" + one(c), one(c) + "h"} {
			s := fmt.Sprintf("a%04x%s", len(body), body)
			s = mark + s + sum(s)
			if want == api.OK {
				tellsNext(t, s, frame.Frame{Kind: 'a', Body: body}, len(s))
			} else {
				refusesNext(t, s, want)
			}
		}
	}
}

func TestNextKindEdges(t *testing.T) {
	for _, c := range []int{'a' - 1, 'z' + 1, 'A', 'Z', '0', 0, 254, 255} {
		s := one(c) + "0002hi"
		refusesNext(t, mark+s+sum(s), api.ErrFrameForm)
		refusesNext(t, mark+one(c), api.ErrFrameForm)
	}
	for _, c := range []int{253, 255, 0, 'a', 0xc3} {
		refusesNext(t, one(c)+hi[1:], api.ErrFrameForm)
		refusesNext(t, one(c), api.ErrFrameForm)
	}
}

func TestNextLengths(t *testing.T) {
	for _, s := range []string{"0", "07", "07d", "07d0", "07cf", "f", "ff", "fff", "1", "8", "08", "080", "07e", "0000", "0001"} {
		refusesNext(t, mark+"a"+s, api.ErrFrameShort)
	}
	for n := 2001; n <= 0xffff; n++ {
		refusesNext(t, fmt.Sprintf("%sa%04x", mark, n), api.ErrFrameForm)
	}
	for _, n := range []int{2001, 4096} {
		s := fmt.Sprintf("a%04x%s", n, strings.Repeat("x", n))
		refusesNext(t, mark+s+sum(s), api.ErrFrameForm)
	}
	body := strings.Repeat("x", most)
	s := "a07d0" + body
	refusesNext(t, mark+s, api.ErrFrameShort)
	refusesNext(t, mark+s+"x", api.ErrFrameForm)
	tellsNext(t, mark+s+sum(s), frame.Frame{Kind: 'a', Body: body}, rest+most)
}

func TestNextGreatDigits(t *testing.T) {
	ten := "a000a0123456789"
	for c := 'A'; c <= 'F'; c++ {
		for at := range 4 {
			s := strings.Repeat("0", at) + string(c)
			refusesNext(t, mark+"a"+s, api.ErrFrameForm)
			refusesNext(t, mark+"a"+s+strings.Repeat("0", 3-at)+"00000000", api.ErrFrameForm)
		}
		for at := range 8 {
			s := mark + ten + sum(ten)[:at] + string(c)
			refusesNext(t, s, api.ErrFrameForm)
			refusesNext(t, s+strings.Repeat("0", 7-at), api.ErrFrameForm)
		}
	}
	great := "a000A0123456789"
	refusesNext(t, mark+great+sum(great), api.ErrFrameForm)
	refusesNext(t, mark+"a0002hi"+strings.ToUpper(sum("a0002hi")), api.ErrFrameForm)
}

func TestNextSum(t *testing.T) {
	for _, f := range append(frames(), long()...) {
		s := text(f)
		at := len(s) - 8
		for i := at; i < len(s); i++ {
			other := "0"
			if s[i] == '0' {
				other = "f"
			}
			wrong := s[:i] + other + s[i+1:]
			refusesNext(t, wrong, api.ErrFrameSum)
			refusesNext(t, wrong+s, api.ErrFrameSum)
			for end := i; end < len(s); end++ {
				refusesNext(t, wrong[:end], api.ErrFrameShort)
			}
		}
		refusesNext(t, s[:at]+sum(s[:at]), api.ErrFrameSum)
		refusesNext(t, s[:at]+sum(f.Body), api.ErrFrameSum)
		refusesNext(t, s[:at]+"0000000x", api.ErrFrameForm)
	}
	for _, s := range []string{mark + "b" + hi[2:], hi[:6] + "ho" + hi[8:], hi[:6] + "ih" + hi[8:], mark + "a0002hi00000000"} {
		refusesNext(t, s, api.ErrFrameSum)
	}
}

func TestScanAndFind(t *testing.T) {
	a, b := frame.Frame{Kind: 'a', Body: "hi"}, frame.Frame{Kind: 'b'}
	ta, tb := text(a), text(b)
	for _, x := range []struct {
		s           string
		want, found []frame.Frame
		long        int
	}{
		{"", nil, nil, 0},
		{"x", nil, nil, 0},
		{mark, nil, nil, 0},
		{ta, []frame.Frame{a}, []frame.Frame{a}, 16},
		{ta + tb, []frame.Frame{a, b}, []frame.Frame{a, b}, 30},
		{tb + ta, []frame.Frame{b, a}, []frame.Frame{b, a}, 30},
		{ta + ta + ta, []frame.Frame{a, a, a}, []frame.Frame{a, a, a}, 48},
		{"x" + ta, nil, []frame.Frame{a}, 0},
		{ta + "x" + tb, []frame.Frame{a}, []frame.Frame{a, b}, 16},
		{ta + "xyz" + tb + "\n" + ta, []frame.Frame{a}, []frame.Frame{a, b, a}, 16},
		{ta + mark, []frame.Frame{a}, []frame.Frame{a}, 16},
		{ta + mark + tb, []frame.Frame{a}, []frame.Frame{a, b}, 16},
		{mark + mark + ta + mark + mark + tb + mark, nil, []frame.Frame{a, b}, 0},
		{ta[:15] + "1" + tb, nil, []frame.Frame{b}, 0},
		{ta + tb[:13] + "x" + ta, []frame.Frame{a}, []frame.Frame{a, a}, 16},
	} {
		if l, n := frame.Scan(x.s); !slices.Equal(l, x.want) || n != x.long {
			t.Errorf("P4.3: Scan: %q: %v, %d", x.s, l, n)
		}
		if l := frame.Find(x.s); !slices.Equal(l, x.found) {
			t.Errorf("P4.3: Find: %q: %v", x.s, l)
		}
	}
}

func TestBeginningsBetweenFrames(t *testing.T) {
	a, b := frame.Frame{Kind: 'a', Body: "hi"}, frame.Frame{Kind: 'q', Body: "9 bob ann"}
	ta, tb := text(a), text(b)
	for at := 1; at < len(tb); at++ {
		s := ta + tb[:at] + ta + tb
		if l, n := frame.Scan(s); !slices.Equal(l, []frame.Frame{a}) || n != len(ta) {
			t.Errorf("P4.3: Scan: %q: %v, %d", s, l, n)
		}
		if l := frame.Find(s); !slices.Equal(l, []frame.Frame{a, a, b}) {
			t.Errorf("P4.3: Find: %q: %v", s, l)
		}
		alike(t, s)
		alike(t, tb[:at]+tb[:at]+tb)
		alike(t, ta+tb[at:]+ta)
	}
}

func TestReadAsPacked(t *testing.T) {
	for _, f := range append(frames(), long()...) {
		s := packed(t, f)
		for _, behind := range []string{"", mark, "x", s, "\x00\xff", s[1:]} {
			if g, n, e := frame.Next(s + behind); g != f || n != len(s) || e != api.OK {
				t.Errorf("P4.4: Next: %s: %v, %d, %d", short(s), g, n, e)
			}
		}
	}
	for c := byte('a'); c <= 'z'; c++ {
		f := frame.Frame{Kind: c, Body: strings.Repeat(string(rune(c)), int(c))}
		if g, _, e := frame.Next(packed(t, f)); g != f || e != api.OK {
			t.Errorf("P4.4: Next: %v: %v, %d", f, g, e)
		}
	}
}

func TestFramesCutOffAnywhere(t *testing.T) {
	for _, l := range [][]frame.Frame{frames(), {frames()[1], long()[3], frames()[0], long()[2]}, slices.Repeat(frames()[1:3], 20)} {
		s, ends := together(t, l)
		whole := 0
		for at := range len(s) + 1 {
			for whole < len(ends) && ends[whole] <= at {
				whole++
			}
			good := 0
			if whole > 0 {
				good = ends[whole-1]
			}
			if got, n := frame.Scan(s[:at]); !slices.Equal(got, l[:whole]) || n != good {
				t.Errorf("P4.4: Scan of %d bytes: %d frames, %d", at, len(got), n)
			}
			if got := frame.Find(s[:at]); !slices.Equal(got, l[:whole]) {
				t.Errorf("P4.4: Find of %d bytes: %d frames", at, len(got))
			}
		}
	}
}

func TestFramesCutOffAhead(t *testing.T) {
	l := frames()
	s, ends := together(t, l)
	for at := range len(s) + 1 {
		lost := 0
		for lost < len(l) && ends[lost]-rest-len(l[lost].Body) < at {
			lost++
		}
		if got := frame.Find(s[at:]); !slices.Equal(got, l[lost:]) {
			t.Errorf("P4.3: Find from byte %d on: %v", at, got)
		}
	}
}

func TestManyFrames(t *testing.T) {
	s := strings.Repeat(hi, 1<<14)
	want := slices.Repeat([]frame.Frame{{Kind: 'a', Body: "hi"}}, 1<<14)
	if l, n := frame.Scan(s + s[:15]); !slices.Equal(l, want) || n != len(s) {
		t.Errorf("P4.3: Scan of many: %d frames, %d", len(l), n)
	}
	if l := frame.Find(s + s[:15]); !slices.Equal(l, want) {
		t.Errorf("P4.3: Find of many: %d frames", len(l))
	}
	for _, s := range []string{strings.Repeat(mark, 1<<18), strings.Repeat("x", 1<<18), strings.Repeat("\xfea07d0", 1<<15), strings.Repeat("\xfea0000", 1<<15)} {
		if l := frame.Find(s); len(l) != 0 {
			t.Errorf("P4.3: Find: %s: %d frames", short(s), len(l))
		}
		if l, n := frame.Scan(s); len(l) != 0 || n != 0 {
			t.Errorf("P4.3: Scan: %s: %d frames, %d", short(s), len(l), n)
		}
	}
}

func TestGivenStays(t *testing.T) {
	for _, f := range append(frames(), frame.Frame{Kind: 'A'}, frame.Frame{Kind: 'a', Body: "\n"}) {
		given := frame.Frame{Kind: f.Kind, Body: strings.Clone(f.Body)}
		frame.Pack(given)
		s := text(f) + "x" + hi
		kept := strings.Clone(s)
		frame.Next(s)
		frame.Scan(s)
		frame.Find(s)
		if given != f || s != kept {
			t.Errorf("R5: %v became %v, %q became %q", f, given, kept, s)
		}
	}
}

func TestToldIsTheCallersOwn(t *testing.T) {
	s, _ := together(t, frames())
	first, n := frame.Scan(s)
	second, _ := frame.Scan(s)
	found, again := frame.Find(s), frame.Find(s)
	for i := range first {
		first[i] = frame.Frame{Kind: 'w', Body: "written"}
		found[i].Body = "written"
	}
	_, _ = append(first[:0], frame.Frame{}), append(found[:0], frame.Frame{})
	third, m := frame.Scan(s)
	for _, l := range [][]frame.Frame{second, third, again, frame.Find(s)} {
		if !slices.Equal(l, frames()) || m != n {
			t.Errorf("R6: written into what was told: %v", l)
		}
	}
	bytes := []byte(hi)
	f, _, _ := frame.Next(string(bytes))
	clear(bytes)
	if f != (frame.Frame{Kind: 'a', Body: "hi"}) {
		t.Errorf("R6: written into what was given: %v", f)
	}
}

func TestSameCallsTellTheSame(t *testing.T) {
	s, _ := together(t, frames())
	first, n := frame.Scan(s + "x")
	for range 3 {
		frame.Next("x")
		frame.Pack(frame.Frame{})
		frame.Find(mark + s)
		if l, m := frame.Scan(s + "x"); !slices.Equal(l, first) || m != n {
			t.Errorf("R7: Scan: %v, then %v", first, l)
		}
	}
}
