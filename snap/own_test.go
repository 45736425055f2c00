package snap_test

import (
	"math/rand/v2"
	"slices"
	"testing"

	"afterglow/frame"
	"afterglow/hist"
	"afterglow/sess"
	"afterglow/snap"
	"afterglow/state"
	"afterglow/subs"
)

// roomy is the list with room behind it, in which other things stand.
func roomy[T any](l []T, others ...T) []T { return append(slices.Clone(l), others...)[:len(l)] }

func roomyState(s state.State) state.State {
	s.Open = roomy(s.Open, session(77, "ann", 1, 1), session(78, "bob", 2, 2))
	s.Users = roomy(s.Users, stayed("ann", stay(1, 2, 3, 4)), stayed("bob"))
	for i, x := range s.Users {
		s.Users[i].Stays = roomy(x.Stays, stay(1, 2, 77, 1), stay(2, 3, 78, 2))
	}
	s.Subs = roomy(s.Subs, entry("bob", "ann", 1, 2), entry("cat", "ann", 3, 4))
	s.Tombs = roomy(s.Tombs, tomb("ann", 1), tomb("bob", 2))
	return s
}

// whole is s with what stands behind the ends of its lists.
func whole(s state.State) state.State {
	s.Open, s.Subs, s.Tombs = s.Open[:cap(s.Open)], s.Subs[:cap(s.Subs)], s.Tombs[:cap(s.Tombs)]
	s.Users = slices.Clone(s.Users[:cap(s.Users)])
	for i, x := range s.Users {
		s.Users[i].Stays = x.Stays[:cap(x.Stays)]
	}
	return s
}

// fill writes into a list, and behind its end.
func fill[T any](l []T, by T) {
	l = l[:cap(l)]
	for i := range l {
		l[i] = by
	}
}

// scrawl writes into all of a state, and behind the ends of its lists.
func scrawl(s state.State) {
	for _, x := range s.Users[:cap(s.Users)] {
		fill(x.Stays, stay(0, 99, 77, 3))
	}
	fill(s.Open, session(7, "w", 3, 0))
	fill(s.Users, stayed("w", stay(0, 99, 78, 3)))
	fill(s.Subs, entry("w", "w", 0, forever))
	fill(s.Tombs, tomb("w", 7))
}

// states are those that are right, and those that are not.
func states() []state.State {
	var l []state.State
	for _, s := range rights() {
		l = append(l, s)
	}
	for _, s := range wrongs() {
		l = append(l, s)
	}
	return l
}

func TestGivenStaysAsItWas(t *testing.T) {
	for _, from := range states() {
		s := roomyState(from)
		before, behind := text(s), text(whole(s))
		written := snap.Write(s)
		fill(snap.Frames(s), frame.Frame{Kind: 'q'})
		again, _ := snap.Read(written)
		scrawl(again)
		if text(s) != before || text(whole(s)) != behind {
			t.Errorf("R5: %s\nbecame\n%s", before, text(s))
		}
	}
}

func TestToldFramesAreTheCallersOwn(t *testing.T) {
	for _, from := range states() {
		s := roomyState(from)
		first, second := snap.Frames(s), snap.Frames(s)
		before := text(second)
		fill(first, frame.Frame{Kind: 'q', Body: "written into"})
		if text(s) != text(from) || text(second) != before {
			t.Errorf("R6: written into the frames of\n%s:\n%s\n%s", text(from), text(s), shown(second))
		}
		scrawl(s)
		if text(second) != before {
			t.Errorf("R6: written into what was given,\n%s:\n%s", text(from), shown(second))
		}
	}
}

func TestToldStateIsTheCallersOwn(t *testing.T) {
	for _, from := range rights() {
		written := snap.Write(from)
		first, _ := snap.Read(written)
		second, _ := snap.Read(written)
		before := text(second)
		scrawl(first)
		if text(second) != before || snap.Write(second) != written {
			t.Errorf("R6: written into what was told of\n%s: %s", text(from), text(second))
		}
		third, is := snap.Read(written)
		if text(third) != before || !is {
			t.Errorf("R6: written into what was told of\n%s, and read again: %s", text(from), text(third))
		}
	}
}

// TestToldListsAreApart: what is written behind the end of one list that was told is not in another one.
func TestToldListsAreApart(t *testing.T) {
	for _, from := range rights() {
		s, _ := snap.Read(snap.Write(from))
		before := text(s)
		for _, x := range s.Users {
			fill(x.Stays[len(x.Stays):], hist.Stay{N: -7})
		}
		fill(s.Open[len(s.Open):], sess.Entry{N: -7})
		fill(s.Users[len(s.Users):], state.User{Name: "w"})
		fill(s.Subs[len(s.Subs):], subs.Entry{})
		fill(s.Tombs[len(s.Tombs):], state.Tomb{User: "w"})
		if text(s) != before {
			t.Errorf("R6: written behind the ends of its lists,\n%s became\n%s", before, text(s))
		}
	}
}

func TestToldAgain(t *testing.T) {
	r := rand.New(rand.NewPCG(15, 7))
	for range 500 {
		s := lived(r, r.IntN(60))
		// With room behind the lists, and without: no answer hangs on it.
		other := roomyState(s)
		if !slices.Equal(snap.Frames(s), snap.Frames(other)) || snap.Write(s) != snap.Write(other) {
			t.Fatalf("R7: Frames and Write of %s", text(s))
		}
		first, is := snap.Read(snap.Write(s))
		again, has := snap.Read(snap.Write(other))
		if text(first) != text(again) || is != has {
			t.Fatalf("R7: Read of what was written of %s: %s, and then %s", text(s), text(first), text(again))
		}
		for _, f := range snap.Frames(s) {
			for _, u := range names() {
				if snap.Bears(f, u) != snap.Bears(f, u) {
					t.Fatalf("R7: Bears of %s, %s", shown([]frame.Frame{f}), u)
				}
			}
		}
	}
}
