package state_test

import (
	"fmt"
	"math/rand/v2"
	"slices"
	"strings"
	"testing"

	"afterglow/api"
	"afterglow/event"
	"afterglow/hist"
	"afterglow/sess"
	"afterglow/state"
	"afterglow/subs"
)

// base has things of all kinds: bob has two open sessions and stays, eve one and stays, zoe stays alone; max was erased.
func base() state.State {
	return state.State{
		Now:     9,
		Horizon: 4,
		Open:    []sess.Entry{session(2, "bob", 1, 5), session(5, "eve", 2, 9), session(8, "bob", 3, 7)},
		Users: []state.User{
			stayed("bob", stay(1, 4, 8, 1), stay(6, 7, 8, 2)),
			stayed("eve", stay(3, 5, 1, 4)),
			stayed("zoe", stay(0, 9, 4, 1)),
		},
		Subs: []subs.Entry{
			entry("ann", "eve", 3, forever),
			entry("bob", "eve", 2, 6),
			entry("bob", "eve", 7, forever),
			entry("eve", "bob", 4, 8),
			entry("zoe", "bob", 9, forever),
		},
		Tombs: []state.Tomb{{User: "eve", At: 2}, {User: "max", At: 9}},
	}
}

// crowded has as many open sessions as there may be: of ann, with every other number from 2 on.
func crowded(count int) state.State {
	s := state.State{Now: 9}
	for k := range count {
		s.Open = append(s.Open, session(2*k+2, "ann", 1, 3))
	}
	return s
}

// with is base with something changed.
func with(turn func(s *state.State)) state.State {
	s := base()
	turn(&s)
	return s
}

// applied is an event and what it makes of a state; with an error nothing.
type applied struct {
	e    event.Event
	turn func(s *state.State)
	err  api.Errno
}

// checkApplied holds Apply against the cases, all of them from one state on.
func checkApplied(t *testing.T, from state.State, l []applied) {
	t.Helper()
	for _, x := range l {
		var want state.State
		if x.err == api.OK {
			want = clone(from)
			want.Now = x.e.At
			x.turn(&want)
		}
		got, err := state.Apply(from, x.e)
		if err != x.err || text(got) != text(want) {
			t.Errorf("P11.1: Apply of %+v: %d\n%s, not\n%s", x.e, err, text(got), text(want))
		}
		if err == api.OK && !state.Right(got) {
			t.Errorf("P11.5: behind %+v not right: %s", x.e, text(got))
		}
	}
}

func same(*state.State) {}

func TestApplyEventsThatMayNotBe(t *testing.T) {
	var l []applied
	for _, x := range []struct {
		e    event.Event
		turn func(e *event.Event)
	}{
		{event.Event{}, func(*event.Event) {}},
		{open(9, "ann", 7, 1), func(e *event.Event) { e.Kind = 0 }},
		{erase(9, "ann"), func(e *event.Event) { e.Kind = event.Erase + 1 }},
		{erase(9, "ann"), func(e *event.Event) { e.Kind = -1 }},
		{erase(9, "ann"), func(e *event.Event) { e.Kind = greatest }},
		{open(9, "ann", 7, 1), func(e *event.Event) { e.At = -1 }},
		{open(9, "ann", 7, 1), func(e *event.Event) { e.At = forever }},
		{open(9, "ann", 7, 1), func(e *event.Event) { e.User = "" }},
		{open(9, "ann", 7, 1), func(e *event.Event) { e.User = "Ann" }},
		{open(9, "ann", 7, 1), func(e *event.Event) { e.User = "aaaaaaaaaaaaa" }},
		{open(9, "ann", 7, 1), func(e *event.Event) { e.Other = "bob" }},
		{open(9, "ann", 7, 1), func(e *event.Event) { e.N = 0 }},
		{open(9, "ann", 7, 1), func(e *event.Event) { e.N = 1000 }},
		{open(9, "ann", 7, 1), func(e *event.Event) { e.Status = 0 }},
		{open(9, "ann", 7, 1), func(e *event.Event) { e.Status = 5 }},
		{change(9, "bob", 2, 1), func(e *event.Event) { e.Status = 5 }},
		{shut(9, "bob", 2), func(e *event.Event) { e.Status = 1 }},
		{shut(9, "bob", 2), func(e *event.Event) { e.N = 0 }},
		{grant(9, "ann", "bob"), func(e *event.Event) { e.Other = "" }},
		{grant(9, "ann", "bob"), func(e *event.Event) { e.N = 1 }},
		{revoke(9, "ann", "eve"), func(e *event.Event) { e.User = "" }},
		{revoke(9, "ann", "eve"), func(e *event.Event) { e.Status = 1 }},
		{retain(9, 7), func(e *event.Event) { e.N = -1 }},
		{retain(9, 7), func(e *event.Event) { e.N = forever }},
		{retain(9, 7), func(e *event.Event) { e.User = "ann" }},
		{erase(9, "ann"), func(e *event.Event) { e.User = "" }},
		{erase(9, "ann"), func(e *event.Event) { e.Other = "ann" }},
		// A time that is over, too, a session that is open, and one that is nowhere: what may not be is told first.
		{open(8, "bob", 2, 1), func(e *event.Event) { e.Status = 5 }},
		{shut(8, "bob", 3), func(e *event.Event) { e.Other = "bob" }},
	} {
		x.turn(&x.e)
		l = append(l, applied{x.e, nil, api.ErrStateForm})
	}
	checkApplied(t, base(), l)
	checkApplied(t, state.State{}, l)
}

func TestApplyTimes(t *testing.T) {
	each := func(at int) []event.Event {
		return []event.Event{open(at, "ann", 7, 1), change(at, "bob", 2, 1), shut(at, "bob", 2), grant(at, "ann", "bob"), revoke(at, "ann", "eve"), retain(at, 7), erase(at, "ann")}
	}
	for _, at := range []int{0, 1, 8, 9, 10, last} {
		for _, e := range each(at) {
			s, err := state.Apply(base(), e)
			if at < 9 && (err != api.ErrStateTime || text(s) != text(state.State{})) {
				t.Errorf("P11.1: %+v behind 9: %s, %d", e, text(s), err)
			}
			if at >= 9 && (err != api.OK || s.Now != at || !state.Right(s)) {
				t.Errorf("P11.1: %+v behind 9: %s, %d", e, text(s), err)
			}
		}
	}
	// A time that is over is told ahead of what the event itself would tell.
	checkApplied(t, base(), []applied{
		{open(8, "ann", 2, 1), nil, api.ErrStateTime},
		{change(8, "bob", 3, 1), nil, api.ErrStateTime},
		{shut(8, "eve", 2), nil, api.ErrStateTime},
		{grant(8, "ann", "eve"), nil, api.ErrStateTime},
		{revoke(8, "ann", "bob"), nil, api.ErrStateTime},
	})
	// An event that is refused is of no account: Now stays as it was.
	s, _ := state.Apply(base(), open(20, "ann", 2, 1))
	if _, err := state.Apply(base(), open(9, "ann", 7, 1)); s.Now != 0 || err != api.OK {
		t.Errorf("P11.1: behind an event that was refused: %d, %d", s.Now, err)
	}
	end := state.State{Now: last, Horizon: last}
	checkApplied(t, end, []applied{
		{open(last, "ann", 1, 1), func(s *state.State) { s.Open = []sess.Entry{session(1, "ann", 1, last)} }, api.OK},
		{open(last-1, "ann", 1, 1), nil, api.ErrStateTime},
		{retain(last, last), same, api.OK},
		{grant(last, "a", "b"), func(s *state.State) { s.Subs = []subs.Entry{entry("a", "b", last, forever)} }, api.OK},
		{erase(last, "ann"), func(s *state.State) { s.Tombs = []state.Tomb{{User: "ann", At: last}} }, api.OK},
	})
}

func TestApplyToNothing(t *testing.T) {
	checkApplied(t, state.State{}, []applied{
		{open(0, "ann", 1, 1), func(s *state.State) { s.Open = []sess.Entry{session(1, "ann", 1, 0)} }, api.OK},
		{open(3, "ann", 999, 4), func(s *state.State) { s.Open = []sess.Entry{session(999, "ann", 4, 3)} }, api.OK},
		{change(3, "ann", 1, 1), nil, api.ErrSessNone},
		{shut(3, "ann", 1), nil, api.ErrSessNone},
		{grant(0, "ann", "bob"), func(s *state.State) { s.Subs = []subs.Entry{entry("ann", "bob", 0, forever)} }, api.OK},
		{grant(3, "ann", "ann"), func(s *state.State) { s.Subs = []subs.Entry{entry("ann", "ann", 3, forever)} }, api.OK},
		{revoke(3, "ann", "bob"), nil, api.ErrSubsOff},
		{retain(3, 0), same, api.OK},
		{retain(3, 5), func(s *state.State) { s.Horizon = 5 }, api.OK},
		{erase(0, "ann"), func(s *state.State) { s.Tombs = []state.Tomb{{User: "ann"}} }, api.OK},
		{erase(3, "ann"), func(s *state.State) { s.Tombs = []state.Tomb{{User: "ann", At: 3}} }, api.OK},
	})
}

func TestApplyOpen(t *testing.T) {
	put := func(place int, e sess.Entry) func(s *state.State) {
		return func(s *state.State) { s.Open = slices.Insert(s.Open, place, e) }
	}
	checkApplied(t, base(), []applied{
		// There already: the first, a middle and the last number, by its user and by another one.
		{open(9, "bob", 2, 1), nil, api.ErrSessOpen},
		{open(9, "ann", 2, 1), nil, api.ErrSessOpen},
		{open(9, "eve", 5, 1), nil, api.ErrSessOpen},
		{open(10, "bob", 5, 4), nil, api.ErrSessOpen},
		{open(10, "bob", 8, 3), nil, api.ErrSessOpen},
		{open(last, "zoe", 8, 3), nil, api.ErrSessOpen},
		// Ahead of all, between, behind all; of users with and without things of their own.
		{open(9, "ann", 1, 4), put(0, session(1, "ann", 4, 9)), api.OK},
		{open(10, "eve", 3, 1), put(1, session(3, "eve", 1, 10)), api.OK},
		{open(12, "zoe", 7, 2), put(2, session(7, "zoe", 2, 12)), api.OK},
		{open(last, "max", 999, 3), put(3, session(999, "max", 3, last)), api.OK},
		// A number that was another user's, and is over.
		{open(9, "ann", 4, 1), put(1, session(4, "ann", 1, 9)), api.OK},
	})
	checkApplied(t, crowded(api.MaxOpen), []applied{
		{open(9, "bob", 1, 1), nil, api.ErrSessMany},
		{open(9, "ann", 99, 1), nil, api.ErrSessMany},
		{open(9, "ann", 2, 1), nil, api.ErrSessOpen},
		{open(9, "bob", 32, 1), nil, api.ErrSessOpen},
	})
	checkApplied(t, crowded(api.MaxOpen-1), []applied{
		{open(9, "bob", 99, 1), put(api.MaxOpen-1, session(99, "bob", 1, 9)), api.OK},
	})
}

// TestApplyEnds has the stays that Change and Close add.
func TestApplyEnds(t *testing.T) {
	bobs := func(l ...hist.Stay) func(s *state.State) {
		return func(s *state.State) { s.Users[0].Stays = l }
	}
	without := func(place int, more func(s *state.State)) func(s *state.State) {
		return func(s *state.State) {
			s.Open = slices.Delete(s.Open, place, place+1)
			more(s)
		}
	}
	is := func(place int, e sess.Entry, more func(s *state.State)) func(s *state.State) {
		return func(s *state.State) {
			s.Open[place] = e
			more(s)
		}
	}
	checkApplied(t, base(), []applied{
		// Nowhere, and another user's.
		{change(9, "bob", 1, 1), nil, api.ErrSessNone},
		{change(9, "zoe", 4, 1), nil, api.ErrSessNone},
		{shut(9, "bob", 1), nil, api.ErrSessNone},
		{shut(9, "zoe", 999), nil, api.ErrSessNone},
		{change(9, "eve", 2, 1), nil, api.ErrSessUser},
		{change(9, "ann", 5, 1), nil, api.ErrSessUser},
		{shut(9, "eve", 8), nil, api.ErrSessUser},
		{shut(9, "bob", 5), nil, api.ErrSessUser},
		// At the time of its From the stay has no time; above it, it has.
		{change(9, "eve", 5, 3), is(1, session(5, "eve", 3, 9), same), api.OK},
		{shut(9, "eve", 5), without(1, same), api.OK},
		{change(10, "eve", 5, 3), is(1, session(5, "eve", 3, 10), func(s *state.State) {
			s.Users[1].Stays = []hist.Stay{stay(3, 5, 1, 4), stay(9, 10, 5, 2)}
		}), api.OK},
		{shut(10, "eve", 5), without(1, func(s *state.State) {
			s.Users[1].Stays = []hist.Stay{stay(3, 5, 1, 4), stay(9, 10, 5, 2)}
		}), api.OK},
		{change(last, "eve", 5, 2), is(1, session(5, "eve", 2, last), func(s *state.State) {
			s.Users[1].Stays = []hist.Stay{stay(3, 5, 1, 4), stay(9, last, 5, 2)}
		}), api.OK},
		// Ahead of a stay that is there, and behind all.
		{change(9, "bob", 2, 4), is(0, session(2, "bob", 4, 9), bobs(stay(1, 4, 8, 1), stay(5, 9, 2, 1), stay(6, 7, 8, 2))), api.OK},
		{shut(11, "bob", 2), without(0, bobs(stay(1, 4, 8, 1), stay(5, 11, 2, 1), stay(6, 7, 8, 2))), api.OK},
		{change(9, "bob", 8, 3), is(2, session(8, "bob", 3, 9), bobs(stay(1, 4, 8, 1), stay(6, 7, 8, 2), stay(7, 9, 8, 3))), api.OK},
		{shut(9, "bob", 8), without(2, bobs(stay(1, 4, 8, 1), stay(6, 7, 8, 2), stay(7, 9, 8, 3))), api.OK},
	})
	first := state.State{Now: 9, Open: []sess.Entry{session(2, "bob", 1, 0)}, Users: []state.User{stayed("bob", stay(1, 4, 8, 1))}}
	checkApplied(t, first, []applied{
		{shut(9, "bob", 2), without(0, bobs(stay(0, 9, 2, 1), stay(1, 4, 8, 1))), api.OK},
	})
}

// TestApplyNewUsers has stays of a user that has none yet.
func TestApplyNewUsers(t *testing.T) {
	for _, x := range []struct {
		user  string
		place int
	}{{"a", 0}, {"0", 0}, {"bo", 0}, {"boba", 1}, {"bz", 1}, {"max", 2}, {"zo", 2}, {"zoea", 3}, {"zz", 3}} {
		from := base()
		from.Open = []sess.Entry{session(1, x.user, 2, 6)}
		added := func(s *state.State) { s.Users = slices.Insert(s.Users, x.place, stayed(x.user, stay(6, 10, 1, 2))) }
		checkApplied(t, from, []applied{
			{shut(10, x.user, 1), func(s *state.State) { s.Open = nil; added(s) }, api.OK},
			{change(10, x.user, 1, 3), func(s *state.State) { s.Open[0] = session(1, x.user, 3, 10); added(s) }, api.OK},
		})
		from.Open[0].From = 9
		// A stay without time makes no user.
		checkApplied(t, from, []applied{
			{shut(9, x.user, 1), func(s *state.State) { s.Open = nil }, api.OK},
			{change(9, x.user, 1, 3), func(s *state.State) { s.Open[0].Status = 3 }, api.OK},
		})
	}
}

func TestApplyRights(t *testing.T) {
	put := func(place int, e subs.Entry) func(s *state.State) {
		return func(s *state.State) { s.Subs = slices.Insert(s.Subs, place, e) }
	}
	checkApplied(t, base(), []applied{
		{grant(9, "ann", "eve"), nil, api.ErrSubsOn},
		{grant(10, "bob", "eve"), nil, api.ErrSubsOn},
		{grant(last, "zoe", "bob"), nil, api.ErrSubsOn},
		{grant(9, "ann", "bob"), put(0, entry("ann", "bob", 9, forever)), api.OK},
		{grant(9, "eve", "ann"), put(3, entry("eve", "ann", 9, forever)), api.OK},
		{grant(10, "eve", "bob"), put(4, entry("eve", "bob", 10, forever)), api.OK},
		{grant(last, "zoe", "eve"), put(5, entry("zoe", "eve", last, forever)), api.OK},
		{grant(9, "bob", "bob"), put(1, entry("bob", "bob", 9, forever)), api.OK},
		{revoke(9, "eve", "ann"), nil, api.ErrSubsOff},
		{revoke(9, "eve", "bob"), nil, api.ErrSubsOff},
		{revoke(10, "bob", "ann"), nil, api.ErrSubsOff},
		{revoke(9, "ann", "eve"), func(s *state.State) { s.Subs[0].To = 9 }, api.OK},
		{revoke(10, "bob", "eve"), func(s *state.State) { s.Subs[2].To = 10 }, api.OK},
		// At the time of its grant, and above it.
		{revoke(9, "zoe", "bob"), func(s *state.State) { s.Subs = s.Subs[:4] }, api.OK},
		{revoke(10, "zoe", "bob"), func(s *state.State) { s.Subs[4].To = 10 }, api.OK},
	})
}

func TestApplyRetain(t *testing.T) {
	horizon := func(n int) func(s *state.State) { return func(s *state.State) { s.Horizon = n } }
	checkApplied(t, base(), []applied{
		{retain(9, 0), same, api.OK},
		{retain(10, 3), same, api.OK},
		{retain(9, 4), same, api.OK},
		{retain(9, 5), horizon(5), api.OK},
		// Above Now, too; nothing is let go of yet.
		{retain(9, 10), horizon(10), api.OK},
		{retain(last, last), horizon(last), api.OK},
	})
}

func TestApplyErase(t *testing.T) {
	tomb := func(place int, user string, at int) func(s *state.State) {
		return func(s *state.State) { s.Tombs = slices.Insert(s.Tombs, place, state.Tomb{User: user, At: at}) }
	}
	checkApplied(t, base(), []applied{
		// Nowhere: ahead of all tombs, between, behind all; names that others begin with.
		{erase(9, "abe"), tomb(0, "abe", 9), api.OK},
		{erase(9, "ev"), tomb(0, "ev", 9), api.OK},
		{erase(9, "evea"), tomb(1, "evea", 9), api.OK},
		{erase(10, "kim"), tomb(1, "kim", 10), api.OK},
		{erase(last, "zz"), tomb(2, "zz", last), api.OK},
		// Open sessions, stays, and entries as a watcher and as a user.
		{erase(9, "bob"), func(s *state.State) {
			s.Open, s.Users, s.Subs = s.Open[1:2], s.Users[1:], s.Subs[:1]
			tomb(0, "bob", 9)(s)
		}, api.OK},
		// As a user alone, and stays without an open session.
		{erase(11, "zoe"), func(s *state.State) {
			s.Users, s.Subs = s.Users[:2], s.Subs[:4]
			tomb(2, "zoe", 11)(s)
		}, api.OK},
		// As a watcher alone.
		{erase(9, "ann"), func(s *state.State) {
			s.Subs = s.Subs[1:]
			tomb(0, "ann", 9)(s)
		}, api.OK},
		// All of it, with a tomb already; and nothing but a tomb.
		{erase(12, "eve"), func(s *state.State) {
			s.Open = []sess.Entry{s.Open[0], s.Open[2]}
			s.Users = []state.User{s.Users[0], s.Users[2]}
			s.Subs = s.Subs[4:]
			s.Tombs[0].At = 12
		}, api.OK},
		{erase(10, "max"), func(s *state.State) { s.Tombs[1].At = 10 }, api.OK},
		{erase(9, "max"), same, api.OK},
	})
	one := state.State{Now: 3, Users: []state.User{stayed("ann", stay(0, 3, 1, 1))}}
	checkApplied(t, one, []applied{{erase(3, "ann"), func(s *state.State) {
		s.Users, s.Tombs = nil, []state.Tomb{{User: "ann", At: 3}}
	}, api.OK}})
}

func TestReset(t *testing.T) {
	want := with(func(s *state.State) {
		// Eve's session is from Now, so that its stay has no time.
		s.Open = nil
		s.Users[0].Stays = []hist.Stay{stay(1, 4, 8, 1), stay(5, 9, 2, 1), stay(6, 7, 8, 2), stay(7, 9, 8, 3)}
	})
	closed := with(func(s *state.State) { s.Open = nil })
	two := state.State{Now: 9, Open: []sess.Entry{session(1, "eve", 1, 3), session(2, "ann", 2, 9), session(3, "bob", 4, 2), session(4, "eve", 3, 0)}}
	for _, x := range []struct{ s, want state.State }{
		{state.State{}, state.State{}},
		{closed, closed},
		{base(), want},
		// Users that had no stays; one whose only session is from Now has none then, either.
		{two, state.State{Now: 9, Users: []state.User{stayed("bob", stay(2, 9, 3, 4)), stayed("eve", stay(0, 9, 4, 3), stay(3, 9, 1, 1))}}},
		{state.State{Open: []sess.Entry{session(1, "ann", 1, 0)}}, state.State{}},
	} {
		if got := state.Reset(x.s); text(got) != text(x.want) || !state.Right(got) {
			t.Errorf("P11.2: Reset:\n%s, not\n%s", text(got), text(x.want))
		}
	}
	full := state.Reset(crowded(api.MaxOpen))
	if len(full.Open) != 0 || len(full.Users) != 1 || len(full.Users[0].Stays) != api.MaxOpen || !state.Right(full) {
		t.Errorf("P11.2: Reset of as many as may be open: %s", text(full))
	}
}

func TestPrune(t *testing.T) {
	at := func(horizon int, turn func(s *state.State)) state.State {
		return with(func(s *state.State) { s.Horizon = horizon; turn(s) })
	}
	for _, x := range []struct {
		horizon int
		turn    func(s *state.State)
	}{
		// Below each To; then at and above those of bob's first stay, eve's, and the first entry that is over.
		{0, same},
		{3, same},
		{4, func(s *state.State) { s.Users[0].Stays = s.Users[0].Stays[1:] }},
		{5, func(s *state.State) {
			s.Users[0].Stays = s.Users[0].Stays[1:]
			s.Users = []state.User{s.Users[0], s.Users[2]}
		}},
		{6, func(s *state.State) {
			s.Users[0].Stays = s.Users[0].Stays[1:]
			s.Users = []state.User{s.Users[0], s.Users[2]}
			s.Subs = slices.Delete(s.Subs, 1, 2)
		}},
		{7, func(s *state.State) {
			s.Users = s.Users[2:]
			s.Subs = slices.Delete(s.Subs, 1, 2)
		}},
		{8, func(s *state.State) {
			s.Users = s.Users[2:]
			s.Subs = []subs.Entry{s.Subs[0], s.Subs[2], s.Subs[4]}
		}},
		// What is in force, what is open, and the tombs stay.
		{9, func(s *state.State) { s.Users, s.Subs = nil, []subs.Entry{s.Subs[0], s.Subs[2], s.Subs[4]} }},
		{last, func(s *state.State) { s.Users, s.Subs = nil, []subs.Entry{s.Subs[0], s.Subs[2], s.Subs[4]} }},
	} {
		s, want := at(x.horizon, same), at(x.horizon, x.turn)
		got := state.Prune(s)
		if text(got) != text(want) || !state.Right(got) {
			t.Errorf("P11.2: Prune, the horizon at %d:\n%s, not\n%s", x.horizon, text(got), text(want))
		}
		if again := state.Prune(got); text(again) != text(got) {
			t.Errorf("P11.2: pruned again, the horizon at %d: %s", x.horizon, text(again))
		}
	}
	if got := state.Prune(state.State{}); text(got) != text(state.State{}) {
		t.Errorf("P11.2: Prune of nothing: %s", text(got))
	}
	// A stay that begins ahead of the horizon, and ends above it, stays whole.
	s := state.State{Now: 9, Horizon: 5, Users: []state.User{stayed("ann", stay(0, 5, 2, 1), stay(1, 6, 1, 1), stay(2, 5, 2, 3))}}
	if got := state.Prune(s); len(got.Users) != 1 || !hist.Same(got.Users[0].Stays, []hist.Stay{stay(1, 6, 1, 1)}) {
		t.Errorf("P11.2: Prune: %s", text(got))
	}
}

func TestStays(t *testing.T) {
	bobs := []hist.Stay{stay(1, 4, 8, 1), stay(6, 7, 8, 2)}
	for _, x := range []struct {
		user string
		now  int
		want []hist.Stay
	}{
		// Nowhere; an entry of layer 9, or a tomb, alone; part of a name.
		{"kim", 9, nil},
		{"", 9, nil},
		{"ann", 9, nil},
		{"max", 9, nil},
		{"bo", 9, nil},
		{"boba", 9, nil},
		// Stays alone: whatever the time is.
		{"zoe", 9, []hist.Stay{stay(0, 9, 4, 1)}},
		{"zoe", 0, []hist.Stay{stay(0, 9, 4, 1)}},
		{"zoe", last, []hist.Stay{stay(0, 9, 4, 1)}},
		{"zoe", least, []hist.Stay{stay(0, 9, 4, 1)}},
		// Both: below, at and above the From of each session.
		{"bob", 4, bobs},
		{"bob", 5, bobs},
		{"bob", 6, []hist.Stay{stay(1, 4, 8, 1), stay(5, 6, 2, 1), stay(6, 7, 8, 2)}},
		{"bob", 7, []hist.Stay{stay(1, 4, 8, 1), stay(5, 7, 2, 1), stay(6, 7, 8, 2)}},
		{"bob", 8, []hist.Stay{stay(1, 4, 8, 1), stay(5, 8, 2, 1), stay(6, 7, 8, 2), stay(7, 8, 8, 3)}},
		{"bob", 20, []hist.Stay{stay(1, 4, 8, 1), stay(5, 20, 2, 1), stay(6, 7, 8, 2), stay(7, 20, 8, 3)}},
		{"bob", -1, bobs},
		{"bob", least, bobs},
		{"bob", greatest, []hist.Stay{stay(1, 4, 8, 1), stay(5, greatest, 2, 1), stay(6, 7, 8, 2), stay(7, greatest, 8, 3)}},
		{"eve", 9, []hist.Stay{stay(3, 5, 1, 4)}},
		{"eve", 10, []hist.Stay{stay(3, 5, 1, 4), stay(9, 10, 5, 2)}},
	} {
		if got := state.Stays(base(), x.user, x.now); !slices.Equal(got, x.want) {
			t.Errorf("P11.3: Stays of %q at %d: %v, not %v", x.user, x.now, got, x.want)
		}
	}
	// Open sessions alone.
	s := state.State{Now: 9, Open: []sess.Entry{session(1, "ann", 1, 9), session(2, "ann", 2, 3), session(3, "bob", 3, 0)}}
	for now, want := range map[int][]hist.Stay{3: nil, 4: {stay(3, 4, 2, 2)}, 9: {stay(3, 9, 2, 2)}, 10: {stay(3, 10, 2, 2), stay(9, 10, 1, 1)}} {
		if got := state.Stays(s, "ann", now); !slices.Equal(got, want) {
			t.Errorf("P11.3: Stays of open sessions alone at %d: %v, not %v", now, got, want)
		}
	}
	if got := state.Stays(state.State{}, "ann", 9); len(got) != 0 {
		t.Errorf("P11.3: Stays of nothing: %v", got)
	}
}

// alone are states with one thing, or some things of one kind: how many, and of whom.
func alone() []struct {
	s     state.State
	count int
	users []string
} {
	return []struct {
		s     state.State
		count int
		users []string
	}{
		{state.State{}, 0, nil},
		{state.State{Now: 9, Horizon: 5}, 0, nil},
		{state.State{Open: []sess.Entry{session(1, "ann", 1, 0)}}, 1, []string{"ann"}},
		{state.State{Open: []sess.Entry{session(1, "ann", 1, 0), session(2, "eve", 1, 0), session(3, "ann", 1, 0)}}, 3, []string{"ann", "eve"}},
		{state.State{Now: 9, Users: []state.User{stayed("bob", stay(0, 9, 1, 1))}}, 1, []string{"bob"}},
		{state.State{Now: 9, Users: []state.User{stayed("ann", stay(0, 8, 1, 1), stay(8, 9, 1, 1)), stayed("zoe", stay(0, 9, 2, 1))}}, 3, []string{"ann", "zoe"}},
		{state.State{Now: 9, Subs: []subs.Entry{entry("ann", "bob", 0, forever)}}, 1, []string{"ann", "bob"}},
		{state.State{Now: 9, Subs: []subs.Entry{entry("ann", "bob", 0, 3), entry("ann", "bob", 5, 6), entry("eve", "eve", 0, 1)}}, 3, []string{"ann", "bob", "eve"}},
		{state.State{Now: 9, Tombs: []state.Tomb{{User: "zoe", At: 0}}}, 1, []string{"zoe"}},
		{state.State{Now: 9, Tombs: []state.Tomb{{User: "bob", At: 9}, {User: "eve", At: 1}}}, 2, []string{"bob", "eve"}},
		// Three open sessions, four stays, five entries, two tombs.
		{base(), 14, []string{"ann", "bob", "eve", "zoe", "max"}},
	}
}

func TestHasAndCount(t *testing.T) {
	for _, x := range alone() {
		if got := state.Count(x.s); got != x.count {
			t.Errorf("P11.3: Count of %s: %d", text(x.s), got)
		}
		for _, u := range append(names(), "max", "an", "anna", "bo", "Ann", "", "\xff") {
			if got := state.Has(x.s, u); got != slices.Contains(x.users, u) {
				t.Errorf("P11.3: Has %q of %s: %v", u, text(x.s), got)
			}
		}
	}
	if got := state.Count(crowded(api.MaxOpen)); got != api.MaxOpen {
		t.Errorf("P11.3: Count of as many as may be open: %d", got)
	}
}

// judged is a change of base, or of a small state, and whether it is right then.
type judged struct {
	turn func(s *state.State)
	want bool
}

func checkRight(t *testing.T, l []judged) {
	t.Helper()
	for i, x := range l {
		s := with(x.turn)
		if got := state.Right(s); got != x.want {
			t.Errorf("P11.4: Right, case %d: %v of %s", i, got, text(s))
		}
	}
}

func TestRightTimes(t *testing.T) {
	for n, want := range map[int]bool{least: false, -1: false, 0: true, 1: true, last: true, forever: false, greatest: false} {
		if state.Right(state.State{Now: n}) != want {
			t.Errorf("P11.4: Right: Now at %d", n)
		}
		if state.Right(state.State{Horizon: n}) != want {
			t.Errorf("P11.4: Right: the horizon at %d", n)
		}
	}
	checkRight(t, []judged{
		{same, true},
		{func(s *state.State) { s.Now = 8 }, false},
		{func(s *state.State) { s.Now = 10 }, true},
		{func(s *state.State) { s.Now = last }, true},
		{func(s *state.State) { s.Now = forever }, false},
		{func(s *state.State) { s.Horizon = 10 }, true},
		{func(s *state.State) { s.Horizon = forever }, false},
	})
}

func TestRightOpen(t *testing.T) {
	checkRight(t, []judged{
		{func(s *state.State) { s.Open = nil }, true},
		{func(s *state.State) { s.Open = []sess.Entry{} }, true},
		{func(s *state.State) { s.Open[0].From = 0 }, true},
		{func(s *state.State) { s.Open[0].From = -1 }, false},
		{func(s *state.State) { s.Open[0].From = 9 }, true},
		{func(s *state.State) { s.Open[0].From = 10 }, false},
		{func(s *state.State) { s.Open[2].From = 10 }, false},
		{func(s *state.State) { s.Open[0].N = 1 }, true},
		{func(s *state.State) { s.Open[0].N = 0 }, false},
		{func(s *state.State) { s.Open[2].N = 999 }, true},
		{func(s *state.State) { s.Open[2].N = 1000 }, false},
		{func(s *state.State) { s.Open[0].Status = 4 }, true},
		{func(s *state.State) { s.Open[0].Status = 0 }, false},
		{func(s *state.State) { s.Open[0].Status = 5 }, false},
		{func(s *state.State) { s.Open[0].User = "" }, false},
		{func(s *state.State) { s.Open[0].User = "Bob" }, false},
		{func(s *state.State) { s.Open[0].N = 5 }, false},
		{func(s *state.State) { s.Open[0], s.Open[1] = s.Open[1], s.Open[0] }, false},
	})
	for count, want := range map[int]bool{api.MaxOpen - 1: true, api.MaxOpen: true, api.MaxOpen + 1: false} {
		if state.Right(crowded(count)) != want {
			t.Errorf("P11.4: Right with %d open sessions: not %v", count, want)
		}
	}
}

func TestRightUsers(t *testing.T) {
	zoes := func(l ...hist.Stay) func(s *state.State) { return func(s *state.State) { s.Users[2].Stays = l } }
	checkRight(t, []judged{
		{func(s *state.State) { s.Users = nil }, true},
		{func(s *state.State) { s.Users = []state.User{} }, true},
		// Names.
		{func(s *state.State) { s.Users[0].Name = "" }, false},
		{func(s *state.State) { s.Users[2].Name = "Zoe" }, false},
		{func(s *state.State) { s.Users[2].Name = "zzzzzzzzzzzz" }, true},
		{func(s *state.State) { s.Users[2].Name = "zzzzzzzzzzzzz" }, false},
		{func(s *state.State) { s.Users[0], s.Users[1] = s.Users[1], s.Users[0] }, false},
		{func(s *state.State) { s.Users[1], s.Users[2] = s.Users[2], s.Users[1] }, false},
		{func(s *state.State) { s.Users[1].Name = "zoe" }, false},
		{func(s *state.State) { s.Users[1].Name = "zo" }, true},
		// Without stays.
		{zoes(), false},
		{func(s *state.State) { s.Users[0].Stays = nil }, false},
		{func(s *state.State) { s.Users[1].Stays = []hist.Stay{} }, false},
		// Stays that rise, and that do not.
		{zoes(stay(0, 1, 1, 1), stay(1, 2, 1, 1)), true},
		{zoes(stay(1, 2, 1, 1), stay(0, 1, 1, 1)), false},
		{zoes(stay(1, 2, 1, 1), stay(1, 2, 1, 1)), false},
		{zoes(stay(1, 2, 1, 1), stay(1, 2, 1, 2)), true},
		{zoes(stay(1, 1, 1, 1)), false},
		{zoes(stay(2, 1, 1, 1)), false},
		// Their numbers and times.
		{zoes(stay(0, 1, 1, 1)), true},
		{zoes(stay(0, 1, 0, 1)), false},
		{zoes(stay(0, 1, -1, 1)), false},
		{zoes(stay(0, 1, 999, 1)), true},
		{zoes(stay(0, 1, 1000, 1)), false},
		{zoes(stay(0, 1, 1, 0)), false},
		{zoes(stay(0, 1, 1, 4)), true},
		{zoes(stay(0, 1, 1, 5)), false},
		{zoes(stay(-1, 1, 1, 1)), false},
		{zoes(stay(least, 1, 1, 1)), false},
		{zoes(stay(8, 9, 1, 1)), true},
		{zoes(stay(8, 10, 1, 1)), false},
		{zoes(stay(0, greatest, 1, 1)), false},
		{zoes(stay(0, forever, 1, 1)), false},
		// Any of several.
		{zoes(stay(0, 1, 1, 1), stay(0, 2, 0, 1), stay(0, 3, 1, 1)), false},
		{zoes(stay(0, 1, 1, 1), stay(0, 2, 1, 1), stay(0, 3, 1, 5)), false},
		{func(s *state.State) { s.Users[0].Stays[0].N = 1000 }, false},
	})
}

// TestRightStaysOfOpenSessions: session 2 is open from 5, 5 from 9, and 8 from 7 on.
func TestRightStaysOfOpenSessions(t *testing.T) {
	is := func(user int, l ...hist.Stay) func(s *state.State) {
		return func(s *state.State) { s.Users[user].Stays = l }
	}
	checkRight(t, []judged{
		{is(0, stay(0, 4, 2, 1)), true},
		{is(0, stay(0, 5, 2, 1)), true},
		{is(0, stay(0, 6, 2, 1)), false},
		{is(0, stay(5, 6, 2, 1)), false},
		{is(0, stay(6, 9, 2, 1)), false},
		{is(0, stay(0, 6, 3, 1)), true},
		{is(0, stay(0, 9, 3, 1)), true},
		{is(0, stay(0, 7, 8, 3)), true},
		{is(0, stay(0, 8, 8, 3)), false},
		{is(1, stay(0, 9, 5, 3)), true},
		{is(0, stay(0, 1, 2, 1), stay(0, 6, 2, 1)), false},
		// A session is open, whoever has it now.
		{is(2, stay(0, 5, 2, 1)), true},
		{is(2, stay(0, 6, 2, 1)), false},
		{is(2, stay(0, 7, 8, 1)), true},
		{is(2, stay(0, 8, 8, 1)), false},
		{is(2, stay(0, 9, 5, 1)), true},
		{func(s *state.State) { s.Open[2].From = 6 }, false},
		{func(s *state.State) { s.Open[0].N, s.Users[2].Stays[0].N = 1, 1 }, false},
	})
}

func TestRightEntriesAndTombs(t *testing.T) {
	has := func(l ...subs.Entry) func(s *state.State) { return func(s *state.State) { s.Subs = l } }
	tombs := func(l ...state.Tomb) func(s *state.State) { return func(s *state.State) { s.Tombs = l } }
	checkRight(t, []judged{
		{has(), true},
		{has(entry("a", "b", 0, 1)), true},
		{has(entry("a", "b", -1, 1)), false},
		{has(entry("a", "b", 8, 9)), true},
		{has(entry("a", "b", 8, 10)), false},
		{has(entry("a", "b", 8, last)), false},
		{has(entry("a", "b", 8, forever)), true},
		{has(entry("a", "b", 8, forever+1)), false},
		{has(entry("a", "b", 9, forever)), true},
		{has(entry("a", "b", 10, forever)), false},
		{has(entry("a", "b", -1, forever)), false},
		{has(entry("a", "b", 9, 9)), false},
		{has(entry("a", "b", 9, 8)), false},
		{has(entry("", "b", 0, 1)), false},
		{has(entry("a", "B", 0, 1)), false},
		{has(entry("a", "a", 0, 1)), true},
		// Of one pair no earlier than the end of the one ahead; else by pair.
		{has(entry("a", "b", 0, 3), entry("a", "b", 3, 4)), true},
		{has(entry("a", "b", 0, 3), entry("a", "b", 2, 4)), false},
		{has(entry("a", "b", 0, forever), entry("a", "b", 2, 4)), false},
		{has(entry("a", "b", 0, 3), entry("a", "b", 0, 3)), false},
		{has(entry("a", "b", 5, 6), entry("a", "c", 0, 1), entry("b", "a", 0, forever)), true},
		{has(entry("b", "a", 0, 1), entry("a", "b", 0, 1)), false},
		{has(entry("a", "c", 0, 1), entry("a", "b", 0, 1)), false},
		{has(entry("a", "b", 0, 1), entry("a", "c", 0, 10)), false},
		{tombs(), true},
		{tombs(state.Tomb{User: "a"}), true},
		{tombs(state.Tomb{User: "a", At: -1}), false},
		{tombs(state.Tomb{User: "a", At: 9}), true},
		{tombs(state.Tomb{User: "a", At: 10}), false},
		{tombs(state.Tomb{User: ""}), false},
		{tombs(state.Tomb{User: "A"}), false},
		{tombs(state.Tomb{User: "a"}, state.Tomb{User: "aa"}, state.Tomb{User: "b"}), true},
		{tombs(state.Tomb{User: "a"}, state.Tomb{User: "a", At: 1}), false},
		{tombs(state.Tomb{User: "b"}, state.Tomb{User: "a"}), false},
		{tombs(state.Tomb{User: "a"}, state.Tomb{User: "b"}, state.Tomb{User: "c", At: 10}), false},
		// A tomb stands beside whatever the user did since then.
		{tombs(state.Tomb{User: "bob", At: 9}), true},
	})
}

func TestSame(t *testing.T) {
	if !state.Same(base(), base()) || !state.Same(state.State{}, state.State{}) {
		t.Error("P11.4: Same: a state is another one than itself")
	}
	empty := state.State{Open: []sess.Entry{}, Users: []state.User{}, Subs: []subs.Entry{}, Tombs: []state.Tomb{}}
	if !state.Same(empty, state.State{}) || !state.Same(state.State{}, empty) {
		t.Error("R3: Same: empty lists are others than none")
	}
	for i, turn := range []func(s *state.State){
		func(s *state.State) { s.Now++ },
		func(s *state.State) { s.Horizon++ },
		func(s *state.State) { s.Now, s.Horizon = s.Horizon, s.Now },
		func(s *state.State) { s.Open = nil },
		func(s *state.State) { s.Open = s.Open[:2] },
		func(s *state.State) { s.Open[0].N = 1 },
		func(s *state.State) { s.Open[1].User = "bob" },
		func(s *state.State) { s.Open[2].Status = 1 },
		func(s *state.State) { s.Open[2].From = 9 },
		func(s *state.State) { s.Open[0], s.Open[1] = s.Open[1], s.Open[0] },
		func(s *state.State) { s.Users = nil },
		func(s *state.State) { s.Users = s.Users[:2] },
		func(s *state.State) { s.Users[0].Name = "bo" },
		func(s *state.State) { s.Users[2].Name = "zz" },
		func(s *state.State) { s.Users[2].Stays = nil },
		func(s *state.State) { s.Users[0].Stays = s.Users[0].Stays[:1] },
		func(s *state.State) { s.Users[0].Stays[1].From = 5 },
		func(s *state.State) { s.Users[1].Stays[0].To = 6 },
		func(s *state.State) { s.Users[2].Stays[0].N = 5 },
		func(s *state.State) { s.Users[2].Stays[0].Status = 2 },
		func(s *state.State) { s.Users[0].Stays, s.Users[1].Stays = s.Users[1].Stays, s.Users[0].Stays },
		func(s *state.State) { s.Subs = nil },
		func(s *state.State) { s.Subs = s.Subs[:4] },
		func(s *state.State) { s.Subs[0].W = "a" },
		func(s *state.State) { s.Subs[2].U = "zoe" },
		func(s *state.State) { s.Subs[4].From = 8 },
		func(s *state.State) { s.Subs[4].To = last },
		func(s *state.State) { s.Tombs = nil },
		func(s *state.State) { s.Tombs = s.Tombs[:1] },
		func(s *state.State) { s.Tombs[0].User = "ev" },
		func(s *state.State) { s.Tombs[1].At = 8 },
	} {
		other := with(turn)
		if state.Same(base(), other) || state.Same(other, base()) {
			t.Errorf("P11.4: Same, case %d: %s", i, text(other))
		}
		if !state.Same(other, with(turn)) {
			t.Errorf("P11.4: Same, case %d, of itself: %s", i, text(other))
		}
	}
}

// must is s behind events that are all taken.
func must(t *testing.T, s state.State, l ...event.Event) state.State {
	t.Helper()
	for _, e := range l {
		next, err := state.Apply(s, e)
		if err != api.OK {
			t.Fatalf("P11.1: %+v is refused: %d", e, err)
		}
		s = next
	}
	return s
}

func TestExamples(t *testing.T) {
	s := must(t, state.State{}, open(3, "ann", 1, 1), shut(7, "ann", 1))
	if want := (state.State{Now: 7, Users: []state.User{stayed("ann", stay(3, 7, 1, 1))}}); text(s) != text(want) {
		t.Errorf("P11.1: the chapter's example: %s", text(s))
	}
	// A user that was erased comes back; its tomb stays, till it is erased again.
	s = must(t, s, erase(8, "ann"), open(8, "ann", 1, 2), grant(9, "bob", "ann"), change(10, "ann", 1, 3))
	want := state.State{
		Now:   10,
		Open:  []sess.Entry{session(1, "ann", 3, 10)},
		Users: []state.User{stayed("ann", stay(8, 10, 1, 2))},
		Subs:  []subs.Entry{entry("bob", "ann", 9, forever)},
		Tombs: []state.Tomb{{User: "ann", At: 8}},
	}
	if text(s) != text(want) {
		t.Errorf("P11.1: behind an erasure: %s", text(s))
	}
	if s = must(t, s, erase(10, "ann")); text(s) != text(state.State{Now: 10, Tombs: []state.Tomb{{User: "ann", At: 10}}}) {
		t.Errorf("P11.5: erased again: %s", text(s))
	}
}

// checkTold holds all that is told of a right state against the model.
func checkTold(t *testing.T, s state.State, now int) {
	t.Helper()
	m := modelOf(s)
	if state.Count(s) != len(m.things()) {
		t.Fatalf("P11.3: Count of %s: %d", text(s), state.Count(s))
	}
	for _, u := range append(names(), "max", "an", "") {
		if got := state.Stays(s, u, now); !slices.Equal(got, m.upTo(u, now)) {
			t.Fatalf("P11.3: Stays of %q at %d: %v, of %s", u, now, got, text(s))
		}
		has := slices.ContainsFunc(m.things(), func(l []string) bool { return slices.Contains(l, u) })
		if state.Has(s, u) != has {
			t.Fatalf("P11.3: Has %q: not %v, of %s", u, has, text(s))
		}
	}
	pruned, reset := modelOf(s), modelOf(s)
	pruned.prune()
	reset.reset()
	if got := state.Prune(s); text(got) != text(pruned.state()) || !state.Right(got) {
		t.Fatalf("P11.2: Prune of\n%s:\n%s", text(s), text(got))
	}
	got := state.Reset(s)
	if text(got) != text(reset.state()) || !state.Right(got) {
		t.Fatalf("P11.2: Reset of\n%s:\n%s", text(s), text(got))
	}
	if len(got.Open) != 0 || !state.Same(state.Reset(got), got) {
		t.Fatalf("P11.5: reset again:\n%s", text(got))
	}
}

// checkApply holds Apply against the model, and tells the state behind the event.
func checkApply(t *testing.T, s state.State, e event.Event) state.State {
	t.Helper()
	m := modelOf(s)
	wantErr := m.take(e)
	got, err := state.Apply(s, e)
	if err != wantErr || err != api.OK && text(got) != text(state.State{}) || err == api.OK && text(got) != text(m.state()) {
		t.Fatalf("P11.1: %+v: %d, not %d, behind\n%s:\n%s", e, err, wantErr, text(s), text(got))
	}
	if err != api.OK {
		return s
	}
	if !state.Right(got) {
		t.Fatalf("P11.5: %+v, behind a right state\n%s:\n%s", e, text(s), text(got))
	}
	if e.Kind == event.Erase {
		checkErased(t, got, e)
	}
	return got
}

// checkErased: is there nothing of the user but its tomb?
func checkErased(t *testing.T, s state.State, e event.Event) {
	t.Helper()
	left := clone(s)
	left.Tombs = slices.DeleteFunc(left.Tombs, func(x state.Tomb) bool { return x == state.Tomb{User: e.User, At: e.At} })
	if len(left.Tombs) != len(s.Tombs)-1 || strings.Contains(text(left), ":"+e.User+" ") || state.Has(left, e.User) || !state.Has(s, e.User) || len(state.Stays(s, e.User, last)) != 0 {
		t.Fatalf("P11.5: behind %+v: %s", e, text(s))
	}
}

func TestStatesByChance(t *testing.T) {
	r := rand.New(rand.NewPCG(11, 1))
	for range 10000 {
		s := made(r)
		if !isRight(s) || !state.Right(s) {
			t.Fatalf("P11.4: Right of %s", text(s))
		}
		checkApply(t, s, someEvent(r, s))
		checkTold(t, s, pick(r, []int{least, -1, 0, s.Now, s.Now + 1, r.IntN(25), last, greatest}))
	}
}

func TestTurnedStatesByChance(t *testing.T) {
	r := rand.New(rand.NewPCG(11, 2))
	wrong := 0
	for range 20000 {
		s := made(r)
		for range 1 + r.IntN(2) {
			s = turned(r, s)
		}
		if got := state.Right(s); got != isRight(s) {
			t.Fatalf("P11.4: Right: %v of %s", got, text(s))
		}
		if !isRight(s) {
			wrong++
		}
		o := turned(r, s)
		if got := state.Same(s, o); got != (text(s) == text(o)) {
			t.Fatalf("P11.4: Same: %v of\n%s\n%s", got, text(s), text(o))
		}
	}
	if wrong < 5000 || wrong > 18000 {
		t.Errorf("of 20000 states %d are not right", wrong)
	}
}

// TestStatesThatAreLived goes on from nothing, by events that are taken or refused; now and then what is there is reset, or pruned.
func TestStatesThatAreLived(t *testing.T) {
	r := rand.New(rand.NewPCG(11, 3))
	for range 200 {
		var s state.State
		for range 100 {
			e := someEvent(r, s)
			if e.At > 500 {
				e.At = s.Now + 1
			}
			s = checkApply(t, s, e)
			switch r.IntN(40) {
			case 0:
				s = state.Reset(s)
			case 1:
				s = state.Prune(s)
			}
			if !isRight(s) {
				t.Fatalf("P11.5: %s", text(s))
			}
		}
		checkTold(t, s, s.Now+r.IntN(3))
	}
}

// TestWrongStates has states of all kinds, right or not: each call ends, and none panics.
func TestWrongStates(t *testing.T) {
	r := rand.New(rand.NewPCG(11, 4))
	for range 10000 {
		s := made(r)
		for range 1 + r.IntN(6) {
			s = turned(r, s)
		}
		before := text(s)
		for range 3 {
			e := someEvent(r, s)
			got, err := state.Apply(s, e)
			if again, other := state.Apply(clone(s), e); other != err || text(again) != text(got) || err != api.OK && text(got) != text(state.State{}) {
				t.Fatalf("R7: %+v behind %s: %d, %s", e, before, err, text(got))
			}
		}
		state.Prune(s)
		state.Stays(s, pick(r, names()), pick(r, []int{least, 0, 9, greatest}))
		state.Has(s, pick(r, names()))
		state.Count(s)
		if got := state.Reset(s); len(got.Open) != 0 {
			t.Fatalf("P11.2: Reset of %s: %s", before, text(got))
		}
		if text(s) != before {
			t.Fatalf("R5: %s became %s", before, text(s))
		}
	}
}

// TestManyThings has a state of many users, stays, entries and tombs.
func TestManyThings(t *testing.T) {
	const many = 10000
	s := state.State{Now: last, Horizon: many / 2}
	for k := range many {
		user := fmt.Sprintf("u%05d", k)
		s.Users = append(s.Users, stayed(user, stay(k, k+1, 1, 1), stay(k, k+1, 2, 1)))
		s.Subs = append(s.Subs, entry(user, "all", k, k+1))
		s.Tombs = append(s.Tombs, state.Tomb{User: user, At: k})
	}
	if !state.Right(s) || state.Count(s) != 4*many || !state.Same(s, clone(s)) {
		t.Error("P11.4: Right, Count, Same of many things")
	}
	if p := state.Prune(s); len(p.Users) != many/2 || len(p.Subs) != many/2 || state.Count(p) != 3*many/2+many {
		t.Errorf("P11.2: Prune of many things: %d", state.Count(p))
	}
	user := fmt.Sprintf("u%05d", many-1)
	if e := must(t, s, erase(last, user)); state.Count(e) != 4*many-3 || len(state.Stays(e, user, last)) != 0 || e.Tombs[many-1].At != last {
		t.Errorf("P11.1: Erase of one of many: %d", state.Count(e))
	}
}
