package state_test

import (
	"math/rand/v2"
	"slices"
	"testing"

	"afterglow/event"
	"afterglow/hist"
	"afterglow/sess"
	"afterglow/state"
	"afterglow/subs"
)

// calls are all those that tell a state.
func calls() map[string]func(s state.State) state.State {
	applied := func(e event.Event) func(s state.State) state.State {
		return func(s state.State) state.State {
			got, _ := state.Apply(s, e)
			return got
		}
	}
	return map[string]func(s state.State) state.State{
		"Open ahead":   applied(open(9, "ann", 1, 1)),
		"Open between": applied(open(9, "bob", 4, 1)),
		"Open behind":  applied(open(10, "zoe", 99, 1)),
		"Open again":   applied(open(9, "bob", 2, 1)),
		"Change":       applied(change(12, "bob", 2, 4)),
		"Change none":  applied(change(9, "eve", 5, 2)),
		"Close":        applied(shut(12, "bob", 2)),
		"Close none":   applied(shut(9, "eve", 5)),
		"Close last":   applied(shut(9, "bob", 8)),
		"Close other":  applied(shut(9, "bob", 5)),
		"Grant":        applied(grant(9, "ann", "bob")),
		"Grant behind": applied(grant(9, "zoe", "zoe")),
		"Grant again":  applied(grant(9, "ann", "eve")),
		"Revoke":       applied(revoke(9, "ann", "eve")),
		"Revoke all":   applied(revoke(9, "zoe", "bob")),
		"Retain":       applied(retain(9, 7)),
		"Retain none":  applied(retain(9, 0)),
		"Erase":        applied(erase(9, "bob")),
		"Erase again":  applied(erase(9, "max")),
		"Erase none":   applied(erase(9, "kim")),
		"Wrong":        applied(event.Event{}),
		"Reset":        state.Reset,
		"Prune":        state.Prune,
	}
}

// given are states of all kinds: those to which a call has nothing to do are the ones that a lazy answer would hand back.
func given() []state.State {
	return []state.State{
		{},
		base(),
		with(func(s *state.State) { s.Open = nil }),
		with(func(s *state.State) { s.Users = nil }),
		with(func(s *state.State) { s.Horizon = 0 }),
		with(func(s *state.State) { s.Horizon = 9 }),
		with(func(s *state.State) { s.Subs, s.Tombs = nil, nil }),
		{Now: 9, Open: []sess.Entry{session(2, "bob", 1, 3)}},
		{Now: 9, Users: []state.User{stayed("bob", stay(0, 5, 1, 1))}},
		{Now: 9, Tombs: []state.Tomb{{User: "max", At: 3}}},
	}
}

// roomy is s in lists with room behind them, in which other things stand.
func roomy(s state.State) state.State {
	s = clone(s)
	s.Open = append(s.Open, session(77, "in", 1, 1), session(78, "room", 2, 2))[:len(s.Open)]
	for i, x := range s.Users {
		s.Users[i].Stays = append(x.Stays, stay(1, 2, 77, 1), stay(2, 3, 78, 2))[:len(x.Stays)]
	}
	s.Users = append(s.Users, stayed("in", stay(1, 2, 3, 4)), stayed("room"))[:len(s.Users)]
	s.Subs = append(s.Subs, entry("in", "room", 1, 2), entry("in", "room", 3, 4))[:len(s.Subs)]
	s.Tombs = append(s.Tombs, state.Tomb{User: "in", At: 1}, state.Tomb{User: "room", At: 2})[:len(s.Tombs)]
	return s
}

// whole is s with what stands behind the ends of its lists.
func whole(s state.State) state.State {
	s.Open, s.Subs, s.Tombs = s.Open[:cap(s.Open)], s.Subs[:cap(s.Subs)], s.Tombs[:cap(s.Tombs)]
	s.Users = slices.Clone(s.Users[:cap(s.Users)])
	for i, x := range s.Users {
		s.Users[i].Stays = x.Stays[:cap(x.Stays)]
	}
	return s
}

// scrawl writes into all that it is given, and behind its ends.
func scrawl(s state.State) {
	for _, x := range s.Users[:cap(s.Users)] {
		fill(x.Stays, stay(-7, 77, -7, 77))
	}
	fill(s.Open, session(-7, "w", 77, -77))
	fill(s.Users, state.User{Name: "w"})
	fill(s.Subs, entry("w", "w", -7, 77))
	fill(s.Tombs, state.Tomb{User: "w", At: -7})
}

func fill[T any](l []T, by T) {
	l = l[:cap(l)]
	for i := range l {
		l[i] = by
	}
}

// asked makes the calls that tell no state; the stays that are told are written into.
func asked(s state.State) {
	for _, user := range append(names(), "kim") {
		for _, now := range []int{0, 5, 9, 12} {
			fill(state.Stays(s, user, now), stay(-7, 77, -7, 77))
		}
		state.Has(s, user)
	}
	state.Count(s)
	state.Right(s)
	state.Same(s, s)
}

func TestGivenStates(t *testing.T) {
	for what, call := range calls() {
		for _, x := range given() {
			for _, s := range []state.State{clone(x), roomy(x)} {
				before, behind := text(s), text(whole(s))
				scrawl(call(s))
				asked(s)
				if text(s) != before || text(whole(s)) != behind {
					t.Errorf("R5: %s:\n%s became\n%s", what, before, text(s))
				}
			}
		}
	}
}

func TestToldIsTheCallersOwn(t *testing.T) {
	for what, call := range calls() {
		for _, x := range given() {
			s := roomy(x)
			first, second := call(s), call(s)
			before := text(second)
			scrawl(first)
			if text(s) != text(x) || text(second) != before {
				t.Errorf("R6: %s: written into what was told of\n%s:\n%s\n%s", what, text(x), text(s), text(second))
			}
			scrawl(s)
			if text(second) != before {
				t.Errorf("R6: %s: written into what was given,\n%s:\n%s", what, text(x), text(second))
			}
		}
	}
}

// TestToldListsAreApart: what is written behind the end of one list that was told is not in another one.
func TestToldListsAreApart(t *testing.T) {
	for what, call := range calls() {
		for _, x := range given() {
			got := call(roomy(x))
			before := text(got)
			for _, user := range got.Users {
				fill(user.Stays[len(user.Stays):], hist.Stay{N: -7})
			}
			fill(got.Open[len(got.Open):], sess.Entry{N: -7})
			fill(got.Users[len(got.Users):], state.User{Name: "w"})
			fill(got.Subs[len(got.Subs):], subs.Entry{})
			fill(got.Tombs[len(got.Tombs):], state.Tomb{User: "w"})
			if text(got) != before {
				t.Errorf("R6: %s of %s: written behind the ends of its lists,\n%s became\n%s", what, text(x), before, text(got))
			}
		}
	}
}

func TestToldStaysAreTheCallersOwn(t *testing.T) {
	for _, x := range given() {
		for _, user := range append(names(), "kim") {
			for _, now := range []int{0, 9, 12} {
				s := roomy(x)
				first, second := state.Stays(s, user, now), state.Stays(s, user, now)
				kept := slices.Clone(second)
				fill(first, hist.Stay{N: -7})
				if text(s) != text(x) || !slices.Equal(second, kept) {
					t.Errorf("R6: Stays of %s: written into what was told: %s, %v", user, text(s), second)
				}
				scrawl(s)
				if !slices.Equal(second, kept) {
					t.Errorf("R6: Stays of %s: written into what was given: %v", user, second)
				}
			}
		}
	}
}

func TestToldAgain(t *testing.T) {
	r := rand.New(rand.NewPCG(11, 5))
	for range 200 {
		s := made(r)
		// With room behind the lists, and without: no answer hangs on it.
		other := roomy(s)
		for what, call := range calls() {
			if first, again := text(call(s)), text(call(other)); first != again {
				t.Fatalf("R7: %s of %s:\n%s, and then\n%s", what, text(s), first, again)
			}
		}
		for _, user := range names() {
			if !slices.Equal(state.Stays(s, user, 9), state.Stays(other, user, 9)) || state.Has(s, user) != state.Has(other, user) {
				t.Fatalf("R7: Stays, Has of %s: %s", user, text(s))
			}
		}
		if state.Count(s) != state.Count(other) || !state.Right(other) || !state.Same(s, other) {
			t.Fatalf("R7: Count, Right, Same of %s", text(s))
		}
	}
}
