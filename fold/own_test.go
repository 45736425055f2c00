package fold_test

import (
	"math/rand/v2"
	"slices"
	"testing"

	"afterglow/api"
	"afterglow/event"
	"afterglow/fold"
	"afterglow/sess"
	"afterglow/state"
	"afterglow/subs"
)

// rows are those of which a lazy answer would hand back what was given: of none, of some, and of all events there is something told.
func rows() [][]event.Event {
	return [][]event.Event{
		nil,
		{open(9, "ann", 1, 1)},
		{open(9, "ann", 2, 1)},
		{open(9, "ann", 2, 1), shut(10, "ann", 2), {}},
		{open(9, "ann", 1, 1), grant(10, "ann", "bob"), erase(10, "eve"), shut(12, "bob", 8)},
		{shut(9, "bob", 8), open(8, "ann", 1, 1), retain(9, 7), grant(9, "ann", "eve"), revoke(12, "ann", "eve")},
	}
}

func states() []state.State {
	return []state.State{
		{},
		base(),
		with(func(s *state.State) { s.Open = nil }),
		with(func(s *state.State) { s.Users = nil }),
		with(func(s *state.State) { s.Subs, s.Tombs = nil, nil }),
	}
}

// roomy is the list with room behind it, in which other things stand.
func roomy[T any](l []T, others ...T) []T { return append(slices.Clone(l), others...)[:len(l)] }

func roomyRow(l []event.Event) []event.Event {
	return roomy(l, open(9, "in", 3, 1), open(9, "room", 4, 1))
}

func roomyState(s state.State) state.State {
	s.Open = roomy(s.Open, session(77, "in", 1, 1), session(78, "room", 2, 2))
	s.Users = roomy(s.Users, stayed("in", stay(1, 2, 3, 4)), stayed("room"))
	for i, x := range s.Users {
		s.Users[i].Stays = roomy(x.Stays, stay(1, 2, 77, 1), stay(2, 3, 78, 2))
	}
	s.Subs = roomy(s.Subs, entry("in", "room", 1, 2), entry("in", "room", 3, 4))
	s.Tombs = roomy(s.Tombs, state.Tomb{User: "in", At: 1}, state.Tomb{User: "room", At: 2})
	return s
}

// whole is s with what stands behind the ends of its lists.
func whole(s state.State) state.State {
	s.Open, s.Subs, s.Tombs = s.Open[:cap(s.Open)], s.Subs[:cap(s.Subs)], s.Tombs[:cap(s.Tombs)]
	s.Users = slices.Clone(s.Users[:cap(s.Users)])
	for i, x := range s.Users {
		s.Users[i].Stays = x.Stays[:cap(x.Stays)]
	}
	return s
}

// fill writes into a list, from a place on, and behind its end.
func fill[T any](l []T, from int, by T) {
	l = l[:cap(l)]
	for i := range l[from:] {
		l[from+i] = by
	}
}

// scrawl writes into all that it is given, and behind its ends.
func scrawl(s state.State) {
	for _, x := range s.Users[:cap(s.Users)] {
		fill(x.Stays, 0, stay(-7, 77, -7, 77))
	}
	fill(s.Open, 0, session(-7, "w", 77, -77))
	fill(s.Users, 0, state.User{Name: "w"})
	fill(s.Subs, 0, entry("w", "w", -7, 77))
	fill(s.Tombs, 0, state.Tomb{User: "w", At: -7})
}

// scrawlBehind writes behind the ends of the lists alone.
func scrawlBehind(s state.State) {
	for _, x := range s.Users {
		fill(x.Stays, len(x.Stays), stay(-7, 77, -7, 77))
	}
	fill(s.Open, len(s.Open), sess.Entry{N: -7})
	fill(s.Users, len(s.Users), state.User{Name: "w"})
	fill(s.Subs, len(s.Subs), subs.Entry{})
	fill(s.Tombs, len(s.Tombs), state.Tomb{User: "w"})
}

// calls are all those that tell a row of events.
func calls() map[string]func(s state.State, l []event.Event) []event.Event {
	without := func(u string) func(s state.State, l []event.Event) []event.Event {
		return func(_ state.State, l []event.Event) []event.Event { return fold.Without(u, l...) }
	}
	return map[string]func(s state.State, l []event.Event) []event.Event{
		"Taken":       func(s state.State, l []event.Event) []event.Event { return fold.Taken(s, l...) },
		"Without ann": without("ann"),
		"Without bob": without("bob"),
		"Without max": without("max"),
	}
}

func TestGivenStaysAsItWas(t *testing.T) {
	for _, from := range states() {
		for _, row := range rows() {
			s, l := roomyState(from), roomyRow(row)
			before, behind, all := text(s), text(whole(s)), text(l[:cap(l)])
			got, told := fold.Fold(s, l...)
			scrawl(got)
			fill(told, 0, api.ErrArg)
			for _, call := range calls() {
				fill(call(s, l), 0, event.Event{Kind: -7, User: "w"})
			}
			fold.Latest(l...)
			if text(s) != before || text(whole(s)) != behind || text(l[:cap(l)]) != all {
				t.Errorf("R5: %v behind\n%s: became %v\n%s", row, before, l, text(s))
			}
		}
	}
}

func TestToldStateIsTheCallersOwn(t *testing.T) {
	for _, from := range states() {
		for _, row := range rows() {
			s, l := roomyState(from), roomyRow(row)
			first, told := fold.Fold(s, l...)
			second, toldAgain := fold.Fold(s, l...)
			before, errs := text(second), text(toldAgain)
			scrawl(first)
			fill(told, 0, api.ErrArg)
			if text(s) != text(from) || text(second) != before || text(toldAgain) != errs {
				t.Errorf("R6: Fold of %v: written into what was told of\n%s:\n%s\n%s", row, text(from), text(s), text(second))
			}
			scrawl(s)
			fill(l, 0, event.Event{Kind: -7})
			if text(second) != before || text(toldAgain) != errs {
				t.Errorf("R6: Fold of %v: written into what was given,\n%s:\n%s", row, text(from), text(second))
			}
			scrawlBehind(second)
			if text(second) != before {
				t.Errorf("R6: Fold of %v: written behind the ends of its lists,\n%s became\n%s", row, before, text(second))
			}
		}
	}
}

func TestToldEventsAreTheCallersOwn(t *testing.T) {
	for what, call := range calls() {
		for _, from := range states() {
			for _, row := range rows() {
				l := roomyRow(row)
				first, second := call(from, l), call(from, l)
				before := text(second)
				fill(first, 0, event.Event{Kind: -7})
				if text(l) != text(row) || text(second) != before {
					t.Errorf("R6: %s: written into what was told of %v: %v, %v", what, row, l, second)
				}
				fill(l, 0, event.Event{Kind: -7})
				if text(second) != before {
					t.Errorf("R6: %s: written into what was given, %v: %v", what, row, second)
				}
			}
		}
	}
}

func TestToldAgain(t *testing.T) {
	r := rand.New(rand.NewPCG(12, 5))
	for range 100 {
		from := pick(r, states())
		l := lived(r, from, r.IntN(40))
		// With room behind the lists, and without: no answer hangs on it.
		s, other := roomyState(from), roomyRow(l)
		got, told := fold.Fold(from, l...)
		if again, toldAgain := fold.Fold(s, other...); text(again) != text(got) || !slices.Equal(told, toldAgain) {
			t.Fatalf("R7: Fold of %v behind %s:\n%s, and then\n%s", l, text(from), text(got), text(again))
		}
		for what, call := range calls() {
			if first, again := call(from, l), call(s, other); !slices.Equal(first, again) {
				t.Fatalf("R7: %s of %v: %v, and then %v", what, l, first, again)
			}
		}
	}
}
