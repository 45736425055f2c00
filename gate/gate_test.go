package gate_test

import (
	"math"
	"slices"
	"testing"

	"afterglow/api"
	"afterglow/event"
	"afterglow/gate"
	"afterglow/hist"
	"afterglow/name"
	"afterglow/sess"
	"afterglow/state"
	"afterglow/subs"
)

func TestChaptersExample(t *testing.T) {
	s := behind(open(3, "ann", 1, 1), grant(5, "bob", "ann"), shut(9, "ann", 1))
	want := []hist.Stay{stay(5, 8, 1, 1)}
	if got, err := gate.Range(s, ask("bob", "ann", 0, 8, 9)); !slices.Equal(got, want) || err != api.OK {
		t.Errorf("P13.1: the chapter's example: %v, %v", got, err)
	}
}

func TestErrors(t *testing.T) {
	for _, x := range []struct {
		what string
		p    name.Pair
		now  int
		want api.Errno
	}{
		{"as it should be", pair("bob", "ann"), 25, api.OK},
		{"the watcher is no name", pair("Bob", "ann"), 25, api.ErrArg},
		{"the user is no name", pair("bob", "a b"), 25, api.ErrArg},
		{"the watcher is empty", pair("", "ann"), 25, api.ErrArg},
		{"the user is empty", pair("bob", ""), 25, api.ErrArg},
		{"the user is too long", pair("bob", "aaaaaaaaaaaaa"), 25, api.ErrArg},
		{"both are no names", pair("", "-"), 25, api.ErrArg},
		{"of the longest names, which nobody knows", pair("aaaaaaaaaaaa", "bbbbbbbbbbbb"), 25, api.OK},
		{"one below the state's time", pair("bob", "ann"), 19, api.ErrGateTime},
		{"at the state's time", pair("bob", "ann"), 20, api.OK},
		{"just below Forever", pair("bob", "ann"), last, api.OK},
		{"at Forever", pair("bob", "ann"), forever, api.ErrGateTime},
		{"above Forever", pair("bob", "ann"), forever + 1, api.ErrGateTime},
		{"at 0", pair("bob", "ann"), 0, api.ErrGateTime},
		{"ahead of all times", pair("bob", "ann"), -1, api.ErrGateTime},
		{"at the least number", pair("bob", "ann"), math.MinInt, api.ErrGateTime},
		{"at the greatest number", pair("bob", "ann"), math.MaxInt, api.ErrGateTime},
		{"too early, of nobody", pair("joe", "may"), 19, api.ErrGateTime},
		{"no name, and too early", pair("bob", "ANN"), 19, api.ErrArg},
		{"no name, and too late", pair("", "ann"), forever, api.ErrArg},
	} {
		l, err := gate.Range(base(), gate.Ask{Pair: x.p, Span: ask("", "", 0, forever, 0).Span, Now: x.now})
		if err != x.want || err != api.OK && l != nil {
			t.Errorf("P13.1: Range, %s: %v, %v; should be %v", x.what, l, err, x.want)
		}
		to, is, err := gate.Last(base(), x.p, x.now)
		if err != x.want || err != api.OK && (to != 0 || is) {
			t.Errorf("P13.2: Last, %s: %d, %v, %v; should be %v", x.what, to, is, err, x.want)
		}
	}
}

func TestOfTheFirstState(t *testing.T) {
	for now, want := range map[int]api.Errno{-1: api.ErrGateTime, 0: api.OK, last: api.OK, forever: api.ErrGateTime} {
		if l, err := gate.Range(state.State{}, ask("bob", "ann", 0, forever, now)); l != nil || err != want {
			t.Errorf("P13.1: of the zero state at %d: %v, %v", now, l, err)
		}
		if to, is, err := gate.Last(state.State{}, pair("bob", "ann"), now); to != 0 || is || err != want {
			t.Errorf("P13.2: Last of the zero state at %d: %d, %v, %v", now, to, is, err)
		}
	}
}

// asked is a question, and what is told.
type asked struct {
	what string
	s    state.State
	q    gate.Ask
	want []hist.Stay
}

func check(t *testing.T, promise string, l []asked) {
	t.Helper()
	for _, x := range l {
		if !state.Right(x.s) {
			t.Fatalf("the test itself: %s: the state is not right", x.what)
		}
		if got, err := gate.Range(x.s, x.q); !slices.Equal(got, x.want) || err != api.OK {
			t.Errorf("%s: %s: %v, %v; should be %v", promise, x.what, got, err, x.want)
		}
	}
}

// seen is all that bob is told of ann in base: the stays are cut by periods from 3 to 5, and from 8 to 14.
func seen() []hist.Stay {
	return []hist.Stay{
		stay(3, 5, 1, 1),
		stay(4, 5, 2, 2),
		stay(8, 10, 1, 1),
		stay(10, 12, 1, 2),
		stay(13, 14, 2, 3),
	}
}

func TestSpan(t *testing.T) {
	s := base()
	check(t, "P13.1", []asked{
		{"of all times", s, ask("bob", "ann", 0, forever, 20), seen()},
		{"of all numbers", s, ask("bob", "ann", math.MinInt, math.MaxInt, 20), seen()},
		{"of just the times that are told", s, ask("bob", "ann", 3, 14, 20), seen()},
		{"empty", s, ask("bob", "ann", 9, 9, 20), nil},
		{"the wrong way round", s, ask("bob", "ann", 14, 3, 20), nil},
		{"from the greatest number to the least one", s, ask("bob", "ann", math.MaxInt, math.MinInt, 20), nil},
		{"of one time", s, ask("bob", "ann", 4, 5, 20), []hist.Stay{stay(4, 5, 1, 1), stay(4, 5, 2, 2)}},
		{"of the time ahead of a period", s, ask("bob", "ann", 2, 3, 20), nil},
		{"of a period's first time", s, ask("bob", "ann", 3, 4, 20), []hist.Stay{stay(3, 4, 1, 1)}},
		{"of a period's last time", s, ask("bob", "ann", 13, 14, 20), []hist.Stay{stay(13, 14, 2, 3)}},
		{"of the time behind a period", s, ask("bob", "ann", 14, 15, 20), nil},
		{"between periods", s, ask("bob", "ann", 5, 8, 20), nil},
		{"in which nobody was there", s, ask("bob", "ann", 12, 13, 20), nil},
		{"from within a stay", s, ask("bob", "ann", 9, 30, 20), []hist.Stay{stay(9, 10, 1, 1), stay(10, 12, 1, 2), stay(13, 14, 2, 3)}},
		{"up to within a stay", s, ask("bob", "ann", -9, 9, 20), []hist.Stay{stay(3, 5, 1, 1), stay(4, 5, 2, 2), stay(8, 9, 1, 1)}},
		{"up to Forever", s, ask("bob", "ann", 12, forever, 20), []hist.Stay{stay(13, 14, 2, 3)}},
		{"from Forever on", s, ask("cat", "ann", forever, math.MaxInt, last), nil},
		{"just ahead of Forever", s, ask("cat", "ann", last-1, forever, last), []hist.Stay{stay(last-1, last, 1, 4), stay(last-1, last, 3, 1)}},
		{"of the last time, up to which it is asked", s, ask("cat", "ann", last, forever, last), nil},
		{"ahead of 0", s, ask("cat", "ann", -9, 0, 20), nil},
	})
}

func TestHorizon(t *testing.T) {
	at := func(n int) state.State { return with(func(s *state.State) { s.Horizon = n }) }
	all := ask("bob", "ann", 0, forever, 20)
	check(t, "P13.1", []asked{
		{"at 0", at(0), all, seen()},
		{"ahead of all that is told", at(3), all, seen()},
		{"within a stay", at(4), all, []hist.Stay{stay(4, 5, 1, 1), stay(4, 5, 2, 2), stay(8, 10, 1, 1), stay(10, 12, 1, 2), stay(13, 14, 2, 3)}},
		{"at a period's end", at(5), all, seen()[2:]},
		{"at a stay's end", at(10), all, seen()[3:]},
		{"at the last time that is told", at(13), all, seen()[4:]},
		{"behind all that is told", at(14), all, nil},
		{"at the state's time", at(20), all, nil},
		{"above the state's time", at(23), all, nil},
		{"above Now", at(21), ask("cat", "ann", 0, forever, 20), nil},
		{"below Now, of sessions that are open", at(21), ask("cat", "ann", 0, forever, 23), []hist.Stay{stay(21, 23, 1, 4), stay(21, 23, 3, 1)}},
		{"at Now, of sessions that are open", at(23), ask("cat", "ann", 0, forever, 23), nil},
		{"just below Forever", at(last), ask("cat", "ann", 0, forever, last), nil},
		{"the span ends ahead of it", at(9), ask("bob", "ann", 0, 9, 20), nil},
		{"the span ends one behind it", at(9), ask("bob", "ann", 0, 10, 20), []hist.Stay{stay(9, 10, 1, 1)}},
		{"the span begins at it", at(9), ask("bob", "ann", 9, 11, 20), []hist.Stay{stay(9, 10, 1, 1), stay(10, 11, 1, 2)}},
		{"the span begins behind it", at(9), ask("bob", "ann", 10, 11, 20), []hist.Stay{stay(10, 11, 1, 2)}},
	})
}

func TestPairs(t *testing.T) {
	s := base()
	all := func(w, u string, now int) gate.Ask { return ask(w, u, 0, forever, now) }
	check(t, "P13.1", []asked{
		{"without an entry", s, all("eve", "ann", 20), nil},
		{"without an entry, but the other way round", s, all("ann", "cat", 20), nil},
		{"the other way round, with other times", s, all("ann", "bob", 20), []hist.Stay{stay(1, 3, 7, 1)}},
		{"of a user that never was there", s, all("eve", "eve", 20), nil},
		{"of names that nobody knows", s, all("joe", "may", 20), nil},
		{"asks of itself, without an entry", s, all("ann", "ann", 20), nil},
		{"asks of itself, with one", with(func(s *state.State) {
			s.Subs = []subs.Entry{entry("ann", "ann", 5, 11)}
		}), all("ann", "ann", 20), []hist.Stay{stay(5, 6, 2, 2), stay(5, 10, 1, 1), stay(10, 11, 1, 2)}},
		{"in force, and one that is over", s, all("cat", "ann", 20), []hist.Stay{stay(15, 16, 2, 3), stay(17, 20, 1, 4)}},
		{"in force from the state's time on", with(func(s *state.State) {
			s.Subs = []subs.Entry{entry("bob", "ann", 20, forever)}
		}), all("bob", "ann", 22), []hist.Stay{stay(20, 22, 1, 4), stay(20, 22, 3, 1)}},
		{"one that is over", with(func(s *state.State) {
			s.Subs = []subs.Entry{entry("bob", "ann", 9, 11)}
		}), all("bob", "ann", 20), []hist.Stay{stay(9, 10, 1, 1), stay(10, 11, 1, 2)}},
		{"others' names begin alike", with(func(s *state.State) {
			s.Subs = []subs.Entry{entry("bo", "ann", 0, forever), entry("bob", "an", 0, forever), entry("bob", "anna", 0, forever), entry("boba", "nn", 0, forever)}
		}), all("bob", "ann", 20), nil},
	})
}

func TestPeriodsThatCut(t *testing.T) {
	by := func(l ...subs.Entry) state.State {
		return with(func(s *state.State) {
			s.Open, s.Subs = nil, l
			s.Users = []state.User{stayed("ann", stay(5, 15, 1, 2))}
		})
	}
	of := func(from, to int) subs.Entry { return entry("bob", "ann", from, to) }
	all := ask("bob", "ann", 0, forever, 20)
	check(t, "P13.1", []asked{
		{"at its beginning", by(of(7, forever)), all, []hist.Stay{stay(7, 15, 1, 2)}},
		{"at its end", by(of(0, 9)), all, []hist.Stay{stay(5, 9, 1, 2)}},
		{"at both", by(of(7, 9)), all, []hist.Stay{stay(7, 9, 1, 2)}},
		{"one time ahead", by(of(6, 20)), all, []hist.Stay{stay(6, 15, 1, 2)}},
		{"not at all: it is just the stay", by(of(5, 15)), all, []hist.Stay{stay(5, 15, 1, 2)}},
		{"not at all: it is about the stay", by(of(4, 16)), all, []hist.Stay{stay(5, 15, 1, 2)}},
		{"touches its beginning", by(of(2, 5)), all, nil},
		{"touches its end", by(of(15, forever)), all, nil},
		{"touches both", by(of(2, 5), of(15, forever)), all, nil},
		{"has its first time", by(of(2, 6)), all, []hist.Stay{stay(5, 6, 1, 2)}},
		{"has its last time", by(of(14, forever)), all, []hist.Stay{stay(14, 15, 1, 2)}},
		{"into several", by(of(2, 6), of(8, 9), of(11, 12), of(14, forever)), all, []hist.Stay{stay(5, 6, 1, 2), stay(8, 9, 1, 2), stay(11, 12, 1, 2), stay(14, 15, 1, 2)}},
		{"entries that touch are one period", by(of(2, 6), of(6, 9), of(9, 11)), all, []hist.Stay{stay(5, 11, 1, 2)}},
		{"entries that touch, and one that does not", by(of(7, 9), of(9, 11), of(12, forever)), all, []hist.Stay{stay(7, 11, 1, 2), stay(12, 15, 1, 2)}},
		{"into several, by the span, and by the horizon", withHorizon(by(of(2, 8), of(10, forever)), 7), ask("bob", "ann", 0, 12, 20), []hist.Stay{stay(7, 8, 1, 2), stay(10, 12, 1, 2)}},
	})
}

func withHorizon(s state.State, n int) state.State {
	s.Horizon = n
	return s
}

func TestOpenSessions(t *testing.T) {
	s := base()
	check(t, "P13.1", []asked{
		{"up to Now, the state's time", s, ask("cat", "ann", 16, forever, 20), []hist.Stay{stay(17, 20, 1, 4)}},
		{"up to Now, one later", s, ask("cat", "ann", 16, forever, 21), []hist.Stay{stay(17, 21, 1, 4), stay(20, 21, 3, 1)}},
		{"up to the last Now", s, ask("cat", "ann", 16, forever, last), []hist.Stay{stay(17, last, 1, 4), stay(20, last, 3, 1)}},
		{"the span ends ahead of Now", s, ask("cat", "ann", 16, 22, 30), []hist.Stay{stay(17, 22, 1, 4), stay(20, 22, 3, 1)}},
		{"the span ends behind Now", s, ask("cat", "ann", 16, 40, 30), []hist.Stay{stay(17, 30, 1, 4), stay(20, 30, 3, 1)}},
		{"the span begins behind Now", s, ask("cat", "ann", 31, 40, 30), nil},
		{"another user's", s, ask("cat", "bob", 0, forever, 30), nil},
		{"the period is over", with(func(s *state.State) {
			s.Users, s.Subs = nil, []subs.Entry{entry("bob", "ann", 3, 19)}
		}), ask("bob", "ann", 0, forever, 30), []hist.Stay{stay(17, 19, 1, 4)}},
		{"cut into several", with(func(s *state.State) {
			s.Open = []sess.Entry{session(9, "ann", 3, 2)}
			s.Users, s.Subs = nil, []subs.Entry{entry("bob", "ann", 3, 5), entry("bob", "ann", 7, 9), entry("bob", "ann", 12, forever)}
		}), ask("bob", "ann", 0, forever, 30), []hist.Stay{stay(3, 5, 9, 3), stay(7, 9, 9, 3), stay(12, 30, 9, 3)}},
	})
}

func TestLast(t *testing.T) {
	only := func(users []state.User, l ...subs.Entry) state.State {
		return with(func(s *state.State) { s.Open, s.Users, s.Subs = nil, users, l })
	}
	ann := func(l ...hist.Stay) []state.User { return []state.User{stayed("ann", l...)} }
	of := func(from, to int) subs.Entry { return entry("bob", "ann", from, to) }
	for _, x := range []struct {
		what string
		s    state.State
		p    name.Pair
		now  int
		to   int
		is   bool
	}{
		{"of none", only(nil, of(0, forever)), pair("bob", "ann"), 20, 0, false},
		{"without an entry", only(ann(stay(3, 9, 1, 1))), pair("bob", "ann"), 20, 0, false},
		{"of one", only(ann(stay(3, 9, 1, 1)), of(0, forever)), pair("bob", "ann"), 20, 9, true},
		{"of one, long ago", only(ann(stay(0, 1, 1, 1)), of(0, forever)), pair("bob", "ann"), last, 1, true},
		{"of several that end at the same time", only(ann(stay(3, 9, 1, 1), stay(4, 9, 2, 1), stay(5, 9, 3, 1)), of(0, forever)), pair("bob", "ann"), 20, 9, true},
		{"the first one ends last", only(ann(stay(3, 12, 1, 1), stay(4, 9, 2, 1), stay(5, 11, 3, 1)), of(0, forever)), pair("bob", "ann"), 20, 12, true},
		{"the period ends ahead of the stay", only(ann(stay(3, 12, 1, 1)), of(2, 8)), pair("bob", "ann"), 20, 8, true},
		{"a stay behind the last period is later", only(ann(stay(3, 6, 1, 1), stay(11, 18, 1, 1)), of(2, 8)), pair("bob", "ann"), 20, 6, true},
		{"a stay touches the period", only(ann(stay(3, 6, 1, 1)), of(6, forever)), pair("bob", "ann"), 20, 0, false},
		{"a stay between two periods is later", only(ann(stay(3, 6, 1, 1), stay(9, 11, 1, 1)), of(2, 8), of(12, forever)), pair("bob", "ann"), 20, 6, true},
		{"all is ahead of the horizon", withHorizon(only(ann(stay(3, 9, 1, 1)), of(0, forever)), 9), pair("bob", "ann"), 20, 0, false},
		{"the last time is not ahead of the horizon", withHorizon(only(ann(stay(3, 9, 1, 1)), of(0, forever)), 8), pair("bob", "ann"), 20, 9, true},
		{"an open session, up to now", base(), pair("cat", "ann"), 27, 27, true},
		{"an open session, up to the state's time", base(), pair("cat", "ann"), 20, 20, true},
		{"an open session, up to the last time", base(), pair("cat", "ann"), last, last, true},
		{"an open session that began just now", with(func(s *state.State) {
			s.Open, s.Users = s.Open[1:2], nil
		}), pair("cat", "ann"), 20, 0, false},
		{"an open session, ahead of the horizon", withHorizon(base(), 27), pair("cat", "ann"), 27, 0, false},
		{"an open session, the period is over", base(), pair("bob", "ann"), 27, 14, true},
		{"the other way round", base(), pair("ann", "bob"), 27, 3, true},
		{"of itself", base(), pair("eve", "eve"), 27, 0, false},
	} {
		if !state.Right(x.s) {
			t.Fatalf("the test itself: %s: the state is not right", x.what)
		}
		if to, is, err := gate.Last(x.s, x.p, x.now); to != x.to || is != x.is || err != api.OK {
			t.Errorf("P13.2: Last, %s: %d, %v, %v; should be %d, %v", x.what, to, is, err, x.to, x.is)
		}
	}
}

func TestSees(t *testing.T) {
	// Periods from 3 to 5, and, by two entries that touch, from 8 to 14.
	for at, want := range map[int]bool{
		math.MinInt: false, -1: false, 0: false, 2: false, 3: true, 4: true, 5: false, 6: false, 7: false,
		8: true, 10: true, 11: true, 13: true, 14: false, 15: false, forever: false, math.MaxInt: false,
	} {
		if got := gate.Sees(base(), pair("bob", "ann"), at); got != want {
			t.Errorf("P13.2: Sees at %d: %v", at, got)
		}
	}
	for at, want := range map[int]bool{0: true, 1: true, 2: false, 14: false, 15: true, 20: true, 21: true, last: true, forever: false, math.MaxInt: false} {
		if got := gate.Sees(base(), pair("cat", "ann"), at); got != want {
			t.Errorf("P13.2: Sees, in force, at %d: %v", at, got)
		}
	}
	for _, p := range []name.Pair{pair("ann", "cat"), pair("bob", "bob"), pair("", ""), pair("bob", ""), pair("", "ann"), pair("joe", "may"), pair("BOB", "ann")} {
		if gate.Sees(base(), p, 4) || gate.Sees(base(), p, 20) {
			t.Errorf("P13.2: Sees, without an entry: %+v", p)
		}
	}
	if !gate.Sees(base(), pair("ann", "bob"), 0) || gate.Sees(base(), pair("ann", "bob"), 4) || !gate.Sees(base(), pair("eve", "eve"), 4) {
		t.Error("P13.2: Sees, the other way round, or of itself")
	}
	// It asks of periods alone: the horizon cuts none.
	if !gate.Sees(withHorizon(base(), 20), pair("bob", "ann"), 4) {
		t.Error("P13.2: Sees, ahead of the horizon")
	}
}

func TestErased(t *testing.T) {
	l := []event.Event{open(1, "ann", 1, 1), open(1, "bob", 2, 1), grant(2, "bob", "ann"), grant(2, "ann", "bob"), shut(5, "ann", 1)}
	for what, x := range map[string]struct {
		s    state.State
		q    gate.Ask
		want []hist.Stay
	}{
		"nobody":   {behind(l...), ask("bob", "ann", 0, forever, 9), []hist.Stay{stay(2, 5, 1, 1)}},
		"the user": {behind(append(l, erase(6, "ann"))...), ask("bob", "ann", 0, forever, 9), nil},
		"the user, that came back, without a grant": {behind(append(l, erase(6, "ann"), open(6, "ann", 3, 1))...), ask("bob", "ann", 0, forever, 9), nil},
		"the user, that came back, with a grant": {
			behind(append(l, erase(6, "ann"), open(6, "ann", 3, 1), grant(7, "bob", "ann"))...),
			ask("bob", "ann", 0, forever, 9), []hist.Stay{stay(7, 9, 3, 1)},
		},
		"the watcher": {behind(append(l, erase(6, "bob"))...), ask("bob", "ann", 0, forever, 9), nil},
		"the watcher, that may see again": {
			behind(append(l, erase(6, "bob"), open(6, "ann", 1, 2), grant(7, "bob", "ann"))...),
			ask("bob", "ann", 0, forever, 9), []hist.Stay{stay(7, 9, 1, 2)},
		},
		"the user, as watcher":  {behind(append(l, erase(6, "ann"))...), ask("ann", "bob", 0, forever, 9), nil},
		"a third one":           {behind(append(l, erase(6, "cat"))...), ask("bob", "ann", 0, forever, 9), []hist.Stay{stay(2, 5, 1, 1)}},
		"a third one, as asked": {behind(append(l, erase(6, "cat"))...), ask("bob", "cat", 0, forever, 9), nil},
	} {
		check(t, "P13.3", []asked{{"erased: " + what, x.s, x.q, x.want}})
		to, is, _ := gate.Last(x.s, x.q.Pair, x.q.Now)
		if is != (len(x.want) > 0) || is && to != x.want[0].To {
			t.Errorf("P13.3: erased: %s: Last: %d, %v", what, to, is)
		}
		if at := x.s.Now - 1; gate.Sees(x.s, x.q.Pair, at) != (what == "nobody" || what == "a third one") {
			t.Errorf("P13.3: erased: %s: Sees at %d", what, at)
		}
	}
}

// TestUnseenEvents: two lists of events that differ only in what ann did while bob might not see her.
func TestUnseenEvents(t *testing.T) {
	s := behind(
		open(4, "ann", 1, 1), grant(5, "bob", "ann"), change(7, "ann", 1, 2), revoke(8, "bob", "ann"),
		shut(8, "ann", 1), grant(12, "bob", "ann"), open(14, "ann", 1, 3), revoke(16, "bob", "ann"), shut(16, "ann", 1), retain(30, 0),
	)
	o := behind(
		open(0, "ann", 5, 4), shut(1, "ann", 5), open(1, "ann", 1, 4), change(5, "ann", 1, 1), grant(5, "bob", "ann"),
		change(7, "ann", 1, 2), revoke(8, "bob", "ann"), change(8, "ann", 1, 4), open(9, "ann", 6, 1), shut(11, "ann", 1), shut(12, "ann", 6),
		grant(12, "bob", "ann"), open(14, "ann", 1, 3), revoke(16, "bob", "ann"), change(19, "ann", 1, 2), open(20, "ann", 2, 2), retain(30, 0),
	)
	want := []hist.Stay{stay(5, 7, 1, 1), stay(7, 8, 1, 2), stay(14, 16, 1, 3)}
	all := ask("bob", "ann", 0, forever, 40)
	check(t, "P13.3", []asked{{"one list", s, all, want}, {"another one", o, all, want}})
	for from := range 20 {
		for to := range 20 {
			q := ask("bob", "ann", from, to, 40)
			l, err := gate.Range(s, q)
			if other, no := gate.Range(o, q); !slices.Equal(l, other) || err != no {
				t.Errorf("P13.3: from %d to %d: %v, and %v", from, to, l, other)
			}
		}
	}
	for what, x := range map[string]state.State{"one list": s, "another one": o} {
		if to, is, err := gate.Last(x, pair("bob", "ann"), 40); to != 16 || !is || err != api.OK {
			t.Errorf("P13.3: Last, %s: %d, %v, %v", what, to, is, err)
		}
	}
}

func TestPruned(t *testing.T) {
	for horizon := range 25 {
		s := withHorizon(base(), horizon)
		pruned := state.Prune(s)
		for _, w := range []string{"bob", "cat", "eve"} {
			q := ask(w, "ann", 0, forever, 23)
			l, err := gate.Range(s, q)
			if got, no := gate.Range(pruned, q); !slices.Equal(got, l) || no != err {
				t.Errorf("P13.3: pruned at %d, of %s: %v; should be %v", horizon, w, got, l)
			}
			to, is, _ := gate.Last(s, q.Pair, 23)
			if n, has, _ := gate.Last(pruned, q.Pair, 23); n != to || has != is {
				t.Errorf("P13.3: pruned at %d, Last of %s: %d, %v; should be %d, %v", horizon, w, n, has, to, is)
			}
		}
	}
}

// TestWhateverIsGiven: a state that is not right, too, is asked without a panic.
func TestWhateverIsGiven(t *testing.T) {
	s := state.State{
		Now:     math.MinInt,
		Horizon: math.MaxInt,
		Open:    []sess.Entry{session(-1, "ann", 77, math.MaxInt), session(-1, "ann", 0, math.MinInt)},
		Users:   []state.User{stayed("ann"), stayed("ann", stay(9, 3, 0, 0), stay(math.MinInt, math.MaxInt, -1, -1)), stayed("")},
		Subs:    []subs.Entry{entry("bob", "ann", 9, 3), entry("bob", "ann", math.MinInt, math.MaxInt), entry("bob", "ann", 0, 1)},
	}
	for _, n := range []int{math.MinInt, -1, 0, 9, last, forever, math.MaxInt} {
		for _, horizon := range []int{math.MinInt, 0, math.MaxInt} {
			for _, q := range []gate.Ask{{}, ask("bob", "ann", math.MinInt, math.MaxInt, n), ask("bob", "ann", n, -n, n)} {
				gate.Range(withHorizon(s, horizon), q)
				gate.Last(withHorizon(s, horizon), q.Pair, n)
				gate.Sees(withHorizon(s, horizon), q.Pair, n)
			}
		}
	}
}
