package snap_test

import (
	"math/rand/v2"
	"slices"
	"strings"
	"testing"

	"afterglow/frame"
	"afterglow/sess"
	"afterglow/snap"
	"afterglow/state"
)

func TestChaptersExample(t *testing.T) {
	if got := shown(snap.Frames(state.State{})); got != "m: 0 0; z: 1" {
		t.Errorf("P15.1: the chapter's example: %s", got)
	}
	const written = "\xfem00030 043ad6c3f\xfez000110d150ee4"
	if got := snap.Write(state.State{}); got != written {
		t.Errorf("P15.2: the chapter's example, written: %q", got)
	}
	if s, is := snap.Read(written); !is || !state.Same(s, state.State{}) {
		t.Errorf("P15.2: the chapter's example, read: %s, %v", text(s), is)
	}
}

func TestFrames(t *testing.T) {
	for what, want := range map[string]string{
		"zero":               "m: 0 0; z: 1",
		"empty lists":        "m: 0 0; z: 1",
		"numbers alone":      "m: 9 5; z: 1",
		"greatest numbers":   "m: 1099511627775 1099511627775; z: 1",
		"horizon ahead":      "m: 0 7; z: 1",
		"an open session":    "m: 0 0; n: 1 a 1 0; z: 2",
		"a stay":             "m: 1 0; s: a 0 1 1 1; z: 2",
		"an entry":           "m: 1 0; w: a b 0 1; z: 2",
		"an entry in force":  "m: 0 0; w: a b 0 1099511627776; z: 2",
		"an entry of itself": "m: 0 0; w: a a 0 1099511627776; z: 2",
		"a tomb":             "m: 0 0; t: a 0; z: 2",
		"one of each":        "m: 9 0; t: a 9; s: a 0 9 1 1; w: a b 0 9; n: 1 a 1 9; z: 5",
		"names of digits":    "m: 9 0; t: 09 9; s: 0 0 9 1 1; s: 00 0 9 1 1; s: 1 1 9 1 1; w: 0 1 0 9; n: 7 7 3 9; z: 7",
		"many": "m: 20 4; t: ann 0; t: max 20; t: x 8; " +
			"s: ann 0 5 1 2; s: ann 3 5 1 2; s: ann 3 5 1 4; s: ann 3 6 7 1; s: bob 0 5 1 2; s: cat 9 20 2 3; s: cat 10 11 999 1; " +
			"w: ann bob 1 3; w: ann bob 3 1099511627776; w: ann cat 0 20; w: bob ann 5 1099511627776; w: eve eve 0 1; " +
			"n: 3 cat 1 20; n: 7 ann 3 9; n: 10 ann 4 0; z: 19",
	} {
		s, is := rights()[what]
		if got := shown(snap.Frames(s)); got != want || !is {
			t.Errorf("P15.1: Frames of %s: %s; should be %s", what, got, want)
		}
	}
	for what, s := range rights() {
		if got := snap.Frames(s); !slices.Equal(got, raw(s)) {
			t.Errorf("P15.1: Frames of %s: %s; should be %s", what, shown(got), shown(raw(s)))
		}
	}
}

func TestFramesOfWrongStates(t *testing.T) {
	for what, s := range wrongs() {
		if got := snap.Frames(s); len(got) != 0 {
			t.Errorf("P15.1: Frames of a state that is not right, %s: %s", what, shown(got))
		}
		if got := snap.Write(s); got != "" {
			t.Errorf("P15.2: Write of a state that is not right, %s: %q", what, got)
		}
	}
}

// bound is how many bytes a state's Write may have.
func bound(s state.State) int { return 80 * (state.Count(s) + 2) }

func checkWrite(t *testing.T, what string, s state.State) {
	t.Helper()
	got := snap.Write(s)
	if want := packed(raw(s)...); got != want {
		t.Errorf("P15.2: Write of %s: %q; should be %q", what, got, want)
	}
	if len(got) > bound(s) || len(got) == 0 {
		t.Errorf("P15.3: Write of %s: %d bytes of %d", what, len(got), bound(s))
	}
}

func TestWrite(t *testing.T) {
	if snap.Each != 80 {
		t.Errorf("P15.3: Each: %d", snap.Each)
	}
	for what, s := range rights() {
		checkWrite(t, what, s)
	}
}

// TestWriteBytes: a frame has its body's bytes, and fourteen.
func TestWriteBytes(t *testing.T) {
	for what, want := range map[string]int{
		"zero":             3 + 1 + 2*14,
		"greatest numbers": 13 + 1 + 13 + 1 + 2*14,
		"one of each":      3 + 3 + 9 + 7 + 7 + 1 + 6*14,
	} {
		if got := len(snap.Write(rights()[what])); got != want {
			t.Errorf("P15.2: Write of %s: %d bytes; should be %d", what, got, want)
		}
	}
}

// TestWriteOfLongest writes one thing of each kind, of the longest names and numbers.
func TestWriteOfLongest(t *testing.T) {
	for what, turn := range map[string]func(s *state.State){
		"nothing": func(s *state.State) {},
		"open":    func(s *state.State) { s.Open = ends().Open[15:] },
		"stays":   func(s *state.State) { s.Users = ends().Users },
		"entries": func(s *state.State) { s.Subs = ends().Subs },
		"force":   func(s *state.State) { s.Subs = ends().Subs[1:] },
		"tombs":   func(s *state.State) { s.Tombs = ends().Tombs },
	} {
		s := state.State{Now: last, Horizon: last}
		turn(&s)
		checkWrite(t, "the longest: "+what, s)
		for _, f := range snap.Frames(s) {
			if got := len(packed(f)); got > 80 {
				t.Errorf("P15.3: a frame of %d bytes: %s", got, shown([]frame.Frame{f}))
			}
		}
	}
}

func TestWriteByChance(t *testing.T) {
	r := rand.New(rand.NewPCG(15, 1))
	for range 1500 {
		s := lived(r, r.IntN(120))
		if got := snap.Frames(s); !slices.Equal(got, raw(s)) {
			t.Fatalf("P15.1: Frames of %s: %s", text(s), shown(got))
		}
		checkWrite(t, "a state that was lived", s)
	}
}

// many is a state of so many things of each kind, but of open sessions, that they cannot be gone through anew for each of them.
func many(count int) state.State {
	s := state.State{Now: 2 * count, Open: []sess.Entry{session(1, "a", 1, 2*count)}}
	for i := range count {
		// Names of one length rise with their numbers.
		user := named(i)
		s.Tombs = append(s.Tombs, tomb(user, i))
		s.Subs = append(s.Subs, entry("a", user, i, forever))
		s.Users = append(s.Users, stayed(user, stay(i, i+1, 1, 1)))
		s.Users[0].Stays = append(s.Users[0].Stays[:i:i], stay(i, i+1, 1, 1))
	}
	return s
}

func named(i int) string {
	digits := []byte("00000000")
	for at := len(digits) - 1; i > 0; i, at = i/10, at-1 {
		digits[at] += byte(i % 10)
	}
	return string(digits)
}

func TestMany(t *testing.T) {
	s := many(3000)
	got := snap.Write(s)
	again, is := snap.Read(got)
	if !is || !state.Same(again, s) || len(got) > bound(s) {
		t.Errorf("P15.3: many things: %v, %d bytes of %d", is, len(got), bound(s))
	}
	one := state.State{Now: 200000}
	for i := range 200000 {
		one.Tombs = append(one.Tombs, tomb(named(i), i))
	}
	got = snap.Write(one)
	if again, is := snap.Read(got); !is || !state.Same(again, one) {
		t.Error("P15.3: many tombs")
	}
	if _, is := snap.Read(strings.Repeat(packed(frame.Frame{Kind: 't', Body: "a 0"}), 200000)); is {
		t.Error("P15.2: many tombs of one user")
	}
}
