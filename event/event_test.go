package event_test

import (
	"fmt"
	"math"
	"math/rand/v2"
	"regexp"
	"slices"
	"strconv"
	"strings"
	"testing"

	"afterglow/api"
	"afterglow/event"
	"afterglow/frame"
)

const (
	late   = 1<<40 - 1 // the latest time
	twelve = "abcdefghij12"
	none   = math.MinInt // no kind, and no number that may stand anywhere
)

// fields are those of an event beside its kind, in the order of a body's words; a kind's own stand in bodies.
const fields = "At User Other N Status"

var bodies = map[int]string{
	event.Open:   "At User N Status",
	event.Change: "At User N Status",
	event.Close:  "At User N",
	event.Grant:  "At User Other",
	event.Revoke: "At User Other",
	event.Retain: "At N",
	event.Erase:  "At User",
}

var letters = map[int]byte{event.Open: 'o', event.Change: 'c', event.Close: 'x', event.Grant: 'g', event.Revoke: 'r', event.Retain: 'h', event.Erase: 'e'}

// has: does a kind have the field, by the document's list?
func has(kind int, field string) bool {
	return slices.Contains(strings.Fields(bodies[kind]), field)
}

// shown is the field as the text that Go itself would write.
func shown(e event.Event, field string) string {
	switch field {
	case "At":
		return strconv.Itoa(e.At)
	case "User":
		return e.User
	case "Other":
		return e.Other
	case "N":
		return strconv.Itoa(e.N)
	}
	return strconv.Itoa(e.Status)
}

var aName = regexp.MustCompile(`\A[a-z0-9]{1,12}\z`)

// fits: may that stand in the field of a kind that has it?
func fits(e event.Event, field string) bool {
	switch field {
	case "At":
		return 0 <= e.At && e.At <= late
	case "User":
		return aName.MatchString(e.User)
	case "Other":
		return aName.MatchString(e.Other)
	case "N":
		return e.Kind == event.Retain && 0 <= e.N && e.N <= late || e.Kind != event.Retain && 1 <= e.N && e.N <= 999
	}
	return 1 <= e.Status && e.Status <= 4
}

// right is the document's Right, field by field.
func right(e event.Event) bool {
	for _, field := range strings.Fields(fields) {
		s := shown(e, field)
		if has(e.Kind, field) && !fits(e, field) || !has(e.Kind, field) && s != "" && s != "0" {
			return false
		}
	}
	return bodies[e.Kind] != ""
}

// framed is the document's Frame of an event that may be.
func framed(e event.Event) frame.Frame {
	var words []string
	for _, field := range strings.Fields(bodies[e.Kind]) {
		words = append(words, shown(e, field))
	}
	return frame.Frame{Kind: letters[e.Kind], Body: strings.Join(words, " ")}
}

// shapes are what the bodies of a frame's kind look like, but for the greatest numbers.
var shapes = map[byte]*regexp.Regexp{
	'o': regexp.MustCompile(`\A(0|[1-9]\d{0,12}) ([a-z0-9]{1,12}) ([1-9]\d{0,2}) ([1-4])\z`),
	'c': regexp.MustCompile(`\A(0|[1-9]\d{0,12}) ([a-z0-9]{1,12}) ([1-9]\d{0,2}) ([1-4])\z`),
	'x': regexp.MustCompile(`\A(0|[1-9]\d{0,12}) ([a-z0-9]{1,12}) ([1-9]\d{0,2})\z`),
	'g': regexp.MustCompile(`\A(0|[1-9]\d{0,12}) ([a-z0-9]{1,12}) ([a-z0-9]{1,12})\z`),
	'r': regexp.MustCompile(`\A(0|[1-9]\d{0,12}) ([a-z0-9]{1,12}) ([a-z0-9]{1,12})\z`),
	'h': regexp.MustCompile(`\A(0|[1-9]\d{0,12}) (0|[1-9]\d{0,12})\z`),
	'e': regexp.MustCompile(`\A(0|[1-9]\d{0,12}) ([a-z0-9]{1,12})\z`),
}

// isEvent is the document's Of, as far as it says that there is one.
func isEvent(f frame.Frame) bool {
	shape := shapes[f.Kind]
	if shape == nil {
		return false
	}
	l := shape.FindStringSubmatch(f.Body)
	if l == nil {
		return false
	}
	at, _ := strconv.Atoi(l[1])
	n := 0
	if f.Kind == 'h' {
		n, _ = strconv.Atoi(l[2])
	}
	return at <= late && n <= late
}

// one is an event of that kind that may be, with whatever fields it has.
func one(kind int) event.Event {
	e := event.Event{Kind: kind, At: 7}
	if has(kind, "User") {
		e.User = "ann"
	}
	if has(kind, "Other") {
		e.Other = "bob"
	}
	if has(kind, "N") {
		e.N = 2
	}
	if has(kind, "Status") {
		e.Status = 1
	}
	return e
}

// kinds are all of them, in order.
func kinds() []int {
	return []int{event.Open, event.Change, event.Close, event.Grant, event.Revoke, event.Retain, event.Erase}
}

// ones are one event of each kind.
func ones() []event.Event {
	var l []event.Event
	for _, kind := range kinds() {
		l = append(l, one(kind))
	}
	return l
}

// edges are events at both ends of what may stand in their fields.
func edges() []event.Event {
	var l []event.Event
	for _, kind := range kinds() {
		for _, at := range []int{0, 1, 10, late} {
			for _, user := range []string{"a", "0", "z9", twelve} {
				e := one(kind)
				e.At = at
				if has(kind, "User") {
					e.User = user
				}
				l = append(l, e)
				if has(kind, "Other") {
					e.Other = user
					l = append(l, e)
				}
			}
			for _, n := range []int{0, 1, 9, 999, late} {
				for _, status := range []int{0, 1, 4} {
					e := one(kind)
					e.At, e.N, e.Status = at, n, status
					if right(e) {
						l = append(l, e)
					}
				}
			}
		}
	}
	return l
}

// alike fails, if what is told of an event is not what the document's words ask for.
func alike(t *testing.T, e event.Event) {
	t.Helper()
	want := right(e)
	if is := event.Right(e); is != want {
		t.Errorf("P6.1: Right: %+v: %v", e, is)
	}
	f, is := event.Frame(e)
	if is != want || want && f != framed(e) || !want && f != (frame.Frame{}) {
		t.Errorf("P6.2: Frame: %+v: %q, %v", e, f, is)
	}
	text := ""
	if want {
		var err api.Errno
		if text, err = frame.Pack(framed(e)); err != api.OK {
			t.Errorf("P6.3: frame.Pack: %+v: %d", e, err)
		}
	}
	if s := event.Pack(e); s != text {
		t.Errorf("P6.3: Pack: %+v: %q, not %q", e, s, text)
	}
	if want {
		tellsOf(t, f, e)
	}
}

// tellsOf fails, if Of tells anything but that event.
func tellsOf(t *testing.T, f frame.Frame, want event.Event) {
	t.Helper()
	if e, is := event.Of(f); !is || e != want {
		t.Errorf("P6.2: Of: %c, %q: %+v, %v, not %+v", f.Kind, f.Body, e, is, want)
	}
}

// refusesOf fails, if Of tells an event.
func refusesOf(t *testing.T, f frame.Frame) {
	t.Helper()
	if e, is := event.Of(f); is || e != (event.Event{}) {
		t.Errorf("P6.2: Of: byte %d, %q: %+v, %v", f.Kind, f.Body, e, is)
	}
}

// alikeOf fails, if Of tells otherwise than the document's words.
func alikeOf(t *testing.T, f frame.Frame) {
	t.Helper()
	if !isEvent(f) {
		refusesOf(t, f)
		return
	}
	e, is := event.Of(f)
	if !is || !right(e) || framed(e) != f {
		t.Errorf("P6.2: Of: %c, %q: %+v, %v", f.Kind, f.Body, e, is)
	}
}

// packed is the text of a frame that is not refused.
func packed(t *testing.T, f frame.Frame) string {
	t.Helper()
	s, err := frame.Pack(f)
	if err != api.OK {
		t.Fatalf("frame.Pack: %q: %d", f, err)
	}
	return s
}

// tellsRead fails, if Read tells anything but these events, and so many bytes.
func tellsRead(t *testing.T, s string, want []event.Event, long int) {
	t.Helper()
	if l, n := event.Read(s); !slices.Equal(l, want) || n != long {
		t.Errorf("P6.3: Read: %.80q: %v, %d, not %v, %d", s, l, n, want, long)
	}
}

func TestKinds(t *testing.T) {
	for i, kind := range kinds() {
		if kind != i+1 || event.Letters[i] != letters[kind] {
			t.Errorf("P6.2: kind %d is %d, %q", i+1, kind, event.Letters[i])
		}
	}
	if event.Letters != "ocxgrhe" {
		t.Errorf("P6.2: Letters: %q", event.Letters)
	}
	for _, kind := range []int{0, 8, 9, -1, -7, none, math.MaxInt, 256 + event.Open, 1<<32 + event.Open} {
		for _, e := range ones() {
			e.Kind = kind
			if event.Right(e) {
				t.Errorf("P6.1: Right: %+v", e)
			}
			alike(t, e)
		}
		alike(t, event.Event{Kind: kind})
		alike(t, event.Event{Kind: kind, At: 7})
	}
}

func TestExample(t *testing.T) {
	e := event.Event{Kind: event.Open, At: 5, User: "ann", N: 2, Status: 1}
	f := frame.Frame{Kind: 'o', Body: "5 ann 2 1"}
	if g, is := event.Frame(e); !is || g != f {
		t.Errorf("P6.2: Frame: %q, %v", g, is)
	}
	tellsOf(t, f, e)
	alike(t, e)
}

func TestEachKind(t *testing.T) {
	for _, x := range []struct {
		e    event.Event
		kind byte
		body string
	}{
		{event.Event{Kind: event.Open, At: 5, User: "ann", N: 2, Status: 1}, 'o', "5 ann 2 1"},
		{event.Event{Kind: event.Change, At: 60, User: "z0", N: 999, Status: 4}, 'c', "60 z0 999 4"},
		{event.Event{Kind: event.Close, At: 0, User: twelve, N: 1}, 'x', "0 abcdefghij12 1"},
		{event.Event{Kind: event.Grant, At: 7, User: "ann", Other: "bob"}, 'g', "7 ann bob"},
		{event.Event{Kind: event.Revoke, At: 7, User: "bob", Other: "bob"}, 'r', "7 bob bob"},
		{event.Event{Kind: event.Retain, At: 7, N: 0}, 'h', "7 0"},
		{event.Event{Kind: event.Retain, At: late, N: late}, 'h', "1099511627775 1099511627775"},
		{event.Event{Kind: event.Erase, At: 12, User: "12"}, 'e', "12 12"},
	} {
		f := frame.Frame{Kind: x.kind, Body: x.body}
		if g, is := event.Frame(x.e); !is || g != f {
			t.Errorf("P6.2: Frame: %+v: %q, %v", x.e, g, is)
		}
		if !event.Right(x.e) {
			t.Errorf("P6.1: Right: %+v: false", x.e)
		}
		tellsOf(t, f, x.e)
		alike(t, x.e)
	}
}

func TestEdgesMayBe(t *testing.T) {
	for _, e := range edges() {
		if !event.Right(e) {
			t.Errorf("P6.1: Right: %+v: false", e)
		}
		alike(t, e)
	}
}

func TestAFieldThatAKindHasNot(t *testing.T) {
	for _, e := range ones() {
		var l []event.Event
		for _, n := range []int{1, -1, 2, 999, late, none, math.MaxInt} {
			if !has(e.Kind, "N") {
				x := e
				x.N = n
				l = append(l, x)
			}
			if !has(e.Kind, "Status") {
				x := e
				x.Status = n
				l = append(l, x)
			}
		}
		for _, s := range []string{"a", "ann", "bob", "", " ", "A", "\x00", "abcdefghij123"} {
			if !has(e.Kind, "User") && s != "" {
				x := e
				x.User = s
				l = append(l, x)
			}
			if !has(e.Kind, "Other") && s != "" {
				x := e
				x.Other = s
				l = append(l, x)
			}
		}
		for _, x := range l {
			if event.Right(x) {
				t.Errorf("P6.1: Right: %+v", x)
			}
			alike(t, x)
		}
	}
}

func TestTimes(t *testing.T) {
	for _, e := range ones() {
		for at, want := range map[int]bool{-1: false, 0: true, 1: true, late: true, late + 1: false, late + 2: false, none: false, math.MaxInt: false, 1 << 41: false} {
			e.At = at
			if event.Right(e) != want {
				t.Errorf("P6.1: Right: %+v: %v", e, !want)
			}
			alike(t, e)
		}
	}
}

func TestNumbers(t *testing.T) {
	for _, e := range ones() {
		session := e.Kind == event.Open || e.Kind == event.Change || e.Kind == event.Close
		for _, n := range []int{-1, 0, 1, 2, 998, 999, 1000, late - 1, late, late + 1, none, math.MaxInt} {
			e.N = n
			want := n == 0
			switch {
			case session:
				want = 1 <= n && n <= 999
			case e.Kind == event.Retain:
				want = 0 <= n && n <= late
			}
			if event.Right(e) != want {
				t.Errorf("P6.1: Right: %+v: %v", e, !want)
			}
			alike(t, e)
		}
	}
}

func TestStatus(t *testing.T) {
	for _, e := range ones() {
		for _, status := range []int{-1, 0, 1, 2, 3, 4, 5, 999, none, math.MaxInt} {
			e.Status = status
			want := status == 0
			if e.Kind == event.Open || e.Kind == event.Change {
				want = 1 <= status && status <= 4
			}
			if event.Right(e) != want {
				t.Errorf("P6.1: Right: %+v: %v", e, !want)
			}
			alike(t, e)
		}
	}
}

func TestNames(t *testing.T) {
	wrong := []string{"", " ", "Ann", "a b", "a ", " a", "a-b", "\x00", "\n", "a\n", "\xfe", "\u00e4", "abcdefghij123", strings.Repeat("a", 5000)}
	for _, e := range ones() {
		for _, s := range wrong {
			if has(e.Kind, "User") {
				x := e
				x.User = s
				refusesName(t, x)
			}
			if has(e.Kind, "Other") {
				x := e
				x.Other = s
				refusesName(t, x)
				x.User = s
				refusesName(t, x)
			}
		}
		if has(e.Kind, "Other") {
			e.User, e.Other = twelve, twelve
			if !event.Right(e) {
				t.Errorf("P6.1: Right: %+v: false", e)
			}
		}
	}
}

// refusesName fails, if an event with a name that is none may be.
func refusesName(t *testing.T, e event.Event) {
	t.Helper()
	if event.Right(e) {
		t.Errorf("P6.1: Right: %.60q, %.60q", e.User, e.Other)
	}
	alike(t, e)
}

func TestBears(t *testing.T) {
	for _, x := range []struct {
		e    event.Event
		u    string
		want bool
	}{
		{one(event.Grant), "ann", true},
		{one(event.Grant), "bob", true},
		{one(event.Grant), "eve", false},
		{one(event.Grant), "", false},
		{one(event.Grant), "an", false},
		{one(event.Grant), "anna", false},
		{one(event.Grant), "Ann", false},
		{one(event.Grant), "ann bob", false},
		{one(event.Revoke), "ann", true},
		{one(event.Revoke), "bob", true},
		{one(event.Revoke), "", false},
		{one(event.Open), "ann", true},
		{one(event.Open), "bob", false},
		{one(event.Open), "", true},
		{one(event.Change), "ann", true},
		{one(event.Close), "ann", true},
		{one(event.Close), "7", false},
		{one(event.Erase), "ann", true},
		{one(event.Erase), "bob", false},
		{one(event.Retain), "ann", false},
		{one(event.Retain), "7", false},
		{one(event.Retain), "", true},
		{event.Event{Kind: event.Revoke, User: "a", Other: "a"}, "a", true},
		{event.Event{}, "", true},
		{event.Event{}, "a", false},
		{event.Event{Kind: 8, User: "No Name", Other: "\xfe"}, "No Name", true},
		{event.Event{Kind: 8, User: "No Name", Other: "\xfe"}, "\xfe", true},
		{event.Event{Kind: 8, User: "No Name", Other: "\xfe"}, "No", false},
		{event.Event{Kind: event.Grant, Other: "b"}, "", true},
	} {
		if is := event.Bears(x.e, x.u); is != x.want {
			t.Errorf("P6.1: Bears: %+v, %q: %v", x.e, x.u, is)
		}
	}
}

func TestFramesThatAreNone(t *testing.T) {
	for _, f := range []frame.Frame{
		{},
		{Kind: 'o'}, {Kind: 'o', Body: " "}, {Kind: 'e', Body: ""}, {Kind: 'h', Body: "7"},
		{Kind: 'o', Body: "5 ann 2"}, {Kind: 'o', Body: "5 ann 2 1 1"}, {Kind: 'o', Body: "5 ann 1"}, {Kind: 'o', Body: "ann 2 1"},
		{Kind: 'o', Body: "05 ann 2 1"}, {Kind: 'o', Body: "+5 ann 2 1"}, {Kind: 'o', Body: "-5 ann 2 1"}, {Kind: 'o', Body: "5 ann 02 1"}, {Kind: 'o', Body: "5 ann 2 01"},
		{Kind: 'o', Body: "5 ann +2 1"}, {Kind: 'o', Body: "5 ann 2 +1"}, {Kind: 'o', Body: "5 ann -2 1"}, {Kind: 'o', Body: "5 ann 2 -1"},
		{Kind: 'o', Body: "5  ann 2 1"}, {Kind: 'o', Body: "5 ann 2  1"}, {Kind: 'o', Body: " 5 ann 2 1"}, {Kind: 'o', Body: "5 ann 2 1 "},
		{Kind: 'o', Body: "5 ann 2 1\n"}, {Kind: 'o', Body: "5\tann 2 1"}, {Kind: 'o', Body: "5 ann 2 x"}, {Kind: 'o', Body: "five ann 2 1"},
		{Kind: 'o', Body: "5 ann 0 1"}, {Kind: 'o', Body: "5 ann 1000 1"}, {Kind: 'o', Body: "5 ann 2 0"}, {Kind: 'o', Body: "5 ann 2 5"},
		{Kind: 'o', Body: "5 Ann 2 1"}, {Kind: 'o', Body: "5 abcdefghij123 2 1"}, {Kind: 'o', Body: "1099511627776 ann 2 1"},
		{Kind: 'o', Body: "99999999999999999999999 ann 2 1"}, {Kind: 'o', Body: "18446744073709551621 ann 2 1"},
		{Kind: 'c', Body: "5 ann 2"}, {Kind: 'c', Body: "5 ann 2 1 "}, {Kind: 'x', Body: "5 ann 2 1"}, {Kind: 'x', Body: "5 ann"}, {Kind: 'x', Body: "5 ann bob"}, {Kind: 'x', Body: "5 ann x"},
		{Kind: 'g', Body: "5 a b "}, {Kind: 'g', Body: "5 a"}, {Kind: 'g', Body: "5 a b c"}, {Kind: 'g', Body: "5 a B"}, {Kind: 'r', Body: "5 a b 1"}, {Kind: 'r', Body: "a b"},
		{Kind: 'h', Body: "5 ann"}, {Kind: 'h', Body: "5 1099511627776"}, {Kind: 'h', Body: "5 00"}, {Kind: 'h', Body: "5 0 0"}, {Kind: 'h', Body: "0"}, {Kind: 'h', Body: "00 0"}, {Kind: 'h', Body: ""},
		{Kind: 'e', Body: "5 a b"}, {Kind: 'e', Body: "5"}, {Kind: 'e', Body: "a"}, {Kind: 'e', Body: "x a"}, {Kind: 'e', Body: " a"},
		{Kind: 'e', Body: "5 a\xfe"}, {Kind: 'e', Body: "5\x00a"}, {Kind: 'e', Body: strings.Repeat("5 a ", 1<<16)}, {Kind: 'e', Body: "5 " + strings.Repeat("a", 1<<16)},
		{Kind: 'h', Body: strings.Repeat(" ", 1<<16)}, {Kind: 'h', Body: strings.Repeat("9", 1<<16) + " 1"},
	} {
		if isEvent(f) {
			t.Errorf("%q is an event", f)
		}
		refusesOf(t, f)
	}
}

func TestKindsOfFrames(t *testing.T) {
	for c := range 256 {
		for _, e := range ones() {
			alikeOf(t, frame.Frame{Kind: byte(c), Body: framed(e).Body})
			if strings.IndexByte("ocxgrhe", byte(c)) < 0 {
				refusesOf(t, frame.Frame{Kind: byte(c), Body: framed(e).Body})
			}
		}
		alikeOf(t, frame.Frame{Kind: byte(c)})
	}
}

// TestBodiesAByteOff holds each text that is one byte beside a body against the document's words.
func TestBodiesAByteOff(t *testing.T) {
	for _, e := range append(ones(), event.Event{Kind: event.Retain, At: 10, N: late}, event.Event{Kind: event.Open, User: twelve, N: 999, Status: 4}) {
		f := framed(e)
		s := f.Body
		for at := range len(s) + 1 {
			alikeOf(t, frame.Frame{Kind: f.Kind, Body: s[:at]})
			alikeOf(t, frame.Frame{Kind: f.Kind, Body: s[at:]})
			for c := range 256 {
				x := string([]byte{byte(c)})
				alikeOf(t, frame.Frame{Kind: f.Kind, Body: s[:at] + x + s[at:]})
				if at < len(s) {
					alikeOf(t, frame.Frame{Kind: f.Kind, Body: s[:at] + x + s[at+1:]})
				}
			}
			if at < len(s) {
				alikeOf(t, frame.Frame{Kind: f.Kind, Body: s[:at] + s[at+1:]})
			}
		}
	}
}

// TestRowsOfWords holds bodies of any words, of any kind, against the document's words.
func TestRowsOfWords(t *testing.T) {
	words := []string{"0", "1", "4", "5", "999", "1000", "1099511627775", "1099511627776", "01", "+1", "-1", "ann", "bob", "Ann", "", twelve, twelve + "3", "~", "99999999999999999999"}
	r := rand.New(rand.NewPCG(6, 1))
	told := 0
	for range 60000 {
		l := make([]string, r.IntN(6))
		for i := range l {
			l[i] = words[r.IntN(len(words))]
		}
		f := frame.Frame{Kind: "ocxgrhez"[r.IntN(8)], Body: strings.Join(l, " ")}
		alikeOf(t, f)
		if isEvent(f) {
			told++
		}
	}
	if told < 300 {
		t.Errorf("%d of these were events", told)
	}
}

// anyEvent is one that may be, or nearly.
func anyEvent(r *rand.Rand) event.Event {
	numbers := []int{0, 0, 0, 1, 1, 2, 4, 5, 998, 999, 1000, late, late + 1, -1}
	texts := []string{"", "", "", "a", "ann", "bob", twelve, twelve + "3", "Ann", "a b"}
	return event.Event{
		Kind: r.IntN(10) - 1, At: numbers[r.IntN(len(numbers))],
		User: texts[r.IntN(len(texts))], Other: texts[r.IntN(len(texts))],
		N: numbers[r.IntN(len(numbers))], Status: numbers[r.IntN(len(numbers))],
	}
}

func TestAnyEvents(t *testing.T) {
	r := rand.New(rand.NewPCG(6, 2))
	may := 0
	for range 200000 {
		e := anyEvent(r)
		alike(t, e)
		u := []string{"", "a", "ann", "bob", "eve", twelve}[r.IntN(6)]
		if is := event.Bears(e, u); is != slices.Contains([]string{e.User, e.Other}, u) {
			t.Errorf("P6.1: Bears: %+v, %q: %v", e, u, is)
		}
		if right(e) {
			may++
		}
	}
	if may < 1000 {
		t.Errorf("%d of these may be", may)
	}
}

func TestPack(t *testing.T) {
	if s := event.Pack(); s != "" {
		t.Errorf("P6.3: Pack of nothing: %q", s)
	}
	want := ""
	for _, e := range edges() {
		want += packed(t, framed(e))
	}
	if s := event.Pack(edges()...); s != want {
		t.Errorf("P6.3: Pack of %d events: %d bytes, not %d", len(edges()), len(s), len(want))
	}
	wrong := event.Event{Kind: event.Erase, At: 9, User: "ann", N: 1}
	for at := range len(ones()) + 1 {
		for _, e := range []event.Event{wrong, {}, {Kind: 8, At: 7}} {
			if s := event.Pack(slices.Insert(ones(), at, e)...); s != "" {
				t.Errorf("P6.3: Pack, number %d of which may not be: %q", at, s)
			}
		}
	}
}

func TestRead(t *testing.T) {
	a, b := event.Event{Kind: event.Open, At: 5, User: "ann", N: 2, Status: 1}, event.Event{Kind: event.Retain, At: 6}
	ta, tb := packed(t, framed(a)), packed(t, framed(b))
	z := packed(t, frame.Frame{Kind: 'z', Body: "5"})
	for _, x := range []struct {
		s    string
		want []event.Event
		long int
	}{
		{"", nil, 0},
		{"x", nil, 0},
		{"\xfe", nil, 0},
		{z, nil, 0},
		{ta, []event.Event{a}, 23},
		{ta + tb, []event.Event{a, b}, 40},
		{tb + ta, []event.Event{b, a}, 40},
		{ta + ta, []event.Event{a, a}, 46},
		{"x" + ta, nil, 0},
		{ta + "x", []event.Event{a}, 23},
		{ta + "x" + tb, []event.Event{a}, 23},
		{ta + tb + "\xfe\xfe" + ta, []event.Event{a, b}, 40},
		{ta + z, []event.Event{a}, 23},
		{ta + z + tb, []event.Event{a}, 23},
		{z + ta + tb, nil, 0},
		{ta + ta[:22] + tb, []event.Event{a}, 23},
		{ta[:22] + "x" + tb, nil, 0},
	} {
		tellsRead(t, x.s, x.want, x.long)
	}
}

func TestReadFramesThatAreNoEvents(t *testing.T) {
	ahead := event.Pack(ones()...)
	for _, f := range []frame.Frame{
		{Kind: 'z', Body: "5"}, {Kind: 't', Body: "ann 5"}, {Kind: 'o'}, {Kind: 'o', Body: "5 ann 2"}, {Kind: 'o', Body: "05 ann 2 1"},
		{Kind: 'o', Body: "5 ann 2 5"}, {Kind: 'x', Body: "5 ann 2 1"}, {Kind: 'h', Body: "5  0"}, {Kind: 'e', Body: "5 ann "}, {Kind: 'g', Body: "-5 a b"},
		{Kind: 'e', Body: strings.Repeat("5", 2000)},
	} {
		tellsRead(t, ahead+packed(t, f), ones(), len(ahead))
		tellsRead(t, ahead+packed(t, f)+ahead, ones(), len(ahead))
		tellsRead(t, packed(t, f)+ahead, nil, 0)
	}
}

func TestReadAsPacked(t *testing.T) {
	for _, e := range edges() {
		s := event.Pack(e)
		for _, behind := range []string{"", "x", "\xfe", s[:len(s)-1], "\xfeo0009"} {
			if l, n := event.Read(s + behind); !slices.Equal(l, []event.Event{e}) || n != len(s) {
				t.Errorf("P6.4: Read: %+v: %v, %d", e, l, n)
			}
		}
	}
	s := event.Pack(edges()...)
	if l, n := event.Read(s); !slices.Equal(l, edges()) || n != len(s) {
		t.Errorf("P6.4: Read: %d of %d events, %d of %d bytes", len(l), len(edges()), n, len(s))
	}
	if l, n := event.Read(s); event.Pack(l...) != s[:n] {
		t.Errorf("P6.4: Pack of what was read is not what was read")
	}
}

func TestCutOffAnywhere(t *testing.T) {
	r := rand.New(rand.NewPCG(6, 4))
	lists := [][]event.Event{ones(), edges()}
	for range 20 {
		l := edges()
		r.Shuffle(len(l), func(i, k int) { l[i], l[k] = l[k], l[i] })
		lists = append(lists, l[:r.IntN(12)])
	}
	for _, l := range lists {
		s := event.Pack(l...)
		ends := []int{0}
		for _, e := range l {
			ends = append(ends, ends[len(ends)-1]+len(event.Pack(e)))
		}
		whole := 0
		for at := range len(s) + 1 {
			for whole < len(l) && ends[whole+1] <= at {
				whole++
			}
			if got, n := event.Read(s[:at]); !slices.Equal(got, l[:whole]) || n != ends[whole] {
				t.Fatalf("P6.4: Read of %d bytes: %d events, %d bytes, not %d, %d", at, len(got), n, whole, ends[whole])
			}
		}
	}
}

// TestChangedAnywhere has one byte of a text be another one: none of the events behind it is read, and no other than was packed.
func TestChangedAnywhere(t *testing.T) {
	l := ones()
	s := event.Pack(l...)
	whole, end := 0, len(event.Pack(l[0]))
	for at := range len(s) {
		if at >= end {
			whole++
			end += len(event.Pack(l[whole]))
		}
		for _, c := range []byte{s[at] + 1, s[at] ^ 1, 0, 254, 255, ' '} {
			if c == s[at] {
				continue
			}
			wrong := s[:at] + string([]byte{c}) + s[at+1:]
			if got, n := event.Read(wrong); !slices.Equal(got, l[:whole]) || n != len(event.Pack(l[:whole]...)) {
				t.Errorf("P6.4: Read with byte %d as %d: %v, %d", at, c, got, n)
			}
		}
	}
}

func TestMany(t *testing.T) {
	l := slices.Repeat(ones(), 1<<11)
	s := event.Pack(l...)
	if len(s) != len(event.Pack(ones()...))<<11 {
		t.Errorf("P6.3: Pack of many: %d bytes", len(s))
	}
	if got, n := event.Read(s + s[:5]); !slices.Equal(got, l) || n != len(s) {
		t.Errorf("P6.4: Read of many: %d events, %d bytes", len(got), n)
	}
	for _, s := range []string{strings.Repeat("\xfe", 1<<18), strings.Repeat("x", 1<<18), strings.Repeat("\xfeo0000", 1<<15)} {
		tellsRead(t, s, nil, 0)
	}
}

func TestGivenStays(t *testing.T) {
	for _, l := range [][]event.Event{ones(), edges(), append(ones(), event.Event{})} {
		given := slices.Clone(l)
		event.Pack(given...)
		for _, e := range given {
			event.Right(e)
			event.Bears(e, "ann")
			event.Frame(e)
		}
		if !slices.Equal(given, l) {
			t.Errorf("R5: given events were changed: %v", given)
		}
	}
	room := append(make([]event.Event, 0, 20), ones()...)
	event.Pack(room[:3]...)
	if !slices.Equal(room, ones()) || room[:8][7] != (event.Event{}) {
		t.Errorf("R5: written behind what was given: %v", room[:8])
	}
	s := event.Pack(ones()...) + "x"
	kept, f := strings.Clone(s), framed(one(event.Open))
	event.Read(s)
	event.Of(f)
	if s != kept || f != framed(one(event.Open)) {
		t.Errorf("R5: %q became %q, or %q", kept, s, f)
	}
}

func TestToldIsTheCallersOwn(t *testing.T) {
	s := event.Pack(ones()...)
	first, _ := event.Read(s)
	second, _ := event.Read(s)
	for i := range first {
		first[i] = event.Event{User: "written"}
	}
	_ = append(first[:0], event.Event{Kind: 9})
	third, _ := event.Read(s)
	if !slices.Equal(second, ones()) || !slices.Equal(third, ones()) {
		t.Errorf("R6: written into what was told: %v, %v", second, third)
	}
	l := ones()
	text := event.Pack(l...)
	clear(l)
	if text != s {
		t.Errorf("R6: written into what was given: %q", text)
	}
	bytes := []byte(s)
	fourth, _ := event.Read(string(bytes))
	clear(bytes)
	if !slices.Equal(fourth, ones()) {
		t.Errorf("R6: written into what was given: %v", fourth)
	}
}

func TestSameCallsTellTheSame(t *testing.T) {
	tell := func() string {
		l, n := event.Read(event.Pack(edges()...) + "x")
		f, is := event.Frame(one(event.Grant))
		e, was := event.Of(f)
		return fmt.Sprint(l, n, f, is, e, was, event.Bears(e, "bob"), event.Right(e))
	}
	first := tell()
	for range 3 {
		event.Of(frame.Frame{Kind: 'z'})
		event.Read("\xfe")
		event.Pack(event.Event{})
		if s := tell(); s != first {
			t.Errorf("R7: %s, then %s", first, s)
		}
	}
}
