package fold_test

import (
	"fmt"
	"math/rand/v2"

	"afterglow/api"
	"afterglow/event"
	"afterglow/hist"
	"afterglow/name"
	"afterglow/sess"
	"afterglow/span"
	"afterglow/state"
	"afterglow/subs"
)

const (
	forever = 1 << 40
	last    = forever - 1
)

func open(at int, user string, n, status int) event.Event {
	return event.Event{Kind: event.Open, At: at, User: user, N: n, Status: status}
}

func change(at int, user string, n, status int) event.Event {
	return event.Event{Kind: event.Change, At: at, User: user, N: n, Status: status}
}

func shut(at int, user string, n int) event.Event {
	return event.Event{Kind: event.Close, At: at, User: user, N: n}
}

func grant(at int, w, u string) event.Event {
	return event.Event{Kind: event.Grant, At: at, User: w, Other: u}
}

func revoke(at int, w, u string) event.Event {
	return event.Event{Kind: event.Revoke, At: at, User: w, Other: u}
}

func retain(at, n int) event.Event { return event.Event{Kind: event.Retain, At: at, N: n} }

func erase(at int, user string) event.Event {
	return event.Event{Kind: event.Erase, At: at, User: user}
}

func stay(from, to, n, status int) hist.Stay {
	return hist.Stay{Span: span.Span{From: from, To: to}, N: n, Status: status}
}

func session(n int, user string, status, from int) sess.Entry {
	return sess.Entry{N: n, User: user, Status: status, From: from}
}

func entry(w, u string, from, to int) subs.Entry {
	return subs.Entry{Pair: name.Pair{W: w, U: u}, Span: span.Span{From: from, To: to}}
}

func stayed(user string, l ...hist.Stay) state.User { return state.User{Name: user, Stays: l} }

// base has things of all kinds: bob has two open sessions and stays, eve one and stays; eve and max were erased.
func base() state.State {
	return state.State{
		Now:     9,
		Horizon: 4,
		Open:    []sess.Entry{session(2, "bob", 1, 5), session(5, "eve", 2, 9), session(8, "bob", 3, 7)},
		Users: []state.User{
			stayed("bob", stay(1, 4, 8, 1), stay(6, 7, 8, 2)),
			stayed("eve", stay(3, 5, 1, 4)),
		},
		Subs: []subs.Entry{
			entry("ann", "eve", 3, forever),
			entry("bob", "eve", 2, 6),
			entry("zoe", "bob", 9, forever),
		},
		Tombs: []state.Tomb{{User: "eve", At: 2}, {User: "max", At: 9}},
	}
}

// with is base with something changed.
func with(turn func(s *state.State)) state.State {
	s := base()
	turn(&s)
	return s
}

// text is all of a state, or of a row; an empty list is shown as none is.
func text[T any](x T) string { return fmt.Sprintf("%+v", x) }

// names are few, so that events share them.
func names() []string { return []string{"ann", "bob", "eve", "zoe"} }

func pick[T any](r *rand.Rand, l []T) T { return l[r.IntN(len(l))] }

// someEvent may come behind s, most times; now and then it is refused, by any of the errors.
func someEvent(r *rand.Rand, s state.State) event.Event {
	at := s.Now + pick(r, []int{0, 0, 1, 1, 2, 5, -1})
	user, other := pick(r, names()), pick(r, names())
	n, status := 1+r.IntN(4), 1+r.IntN(4)
	if len(s.Open) > 0 && r.IntN(4) > 0 {
		e := pick(r, s.Open)
		n, user = e.N, pick(r, []string{e.User, e.User, e.User, user})
	}
	switch r.IntN(16) {
	case 0, 1, 2:
		return open(at, user, 1+r.IntN(6), status)
	case 3:
		return open(at, user, 1+r.IntN(30), status)
	case 4, 5, 6:
		return change(at, user, n, status)
	case 7, 8:
		return shut(at, user, n)
	case 9, 10:
		return grant(at, user, other)
	case 11, 12:
		return revoke(at, user, other)
	case 13:
		return retain(at, r.IntN(at+2))
	case 14:
		return erase(at, user)
	}
	return event.Event{Kind: r.IntN(9), At: at, User: user, Other: other}
}

// oneByOne is s behind the events that state.Apply takes, and what it tells of each.
func oneByOne(s state.State, l []event.Event) (state.State, []api.Errno) {
	var told []api.Errno
	for _, e := range l {
		next, err := state.Apply(s, e)
		told = append(told, err)
		if err == api.OK {
			s = next
		}
	}
	return s, told
}

// lived is events that came behind s, those that were refused among them.
func lived(r *rand.Rand, s state.State, count int) []event.Event {
	var l []event.Event
	if r.IntN(4) == 0 {
		for n := range 18 {
			l = append(l, open(s.Now, pick(r, names()), n+1, 1))
		}
		s, _ = oneByOne(s, l)
	}
	for range count {
		e := someEvent(r, s)
		l = append(l, e)
		s, _ = oneByOne(s, []event.Event{e})
	}
	return l
}

// mixed is events of any kind, in no order at all.
func mixed(r *rand.Rand, count int) []event.Event {
	var l []event.Event
	for range count {
		l = append(l, someEvent(r, state.State{Now: r.IntN(20)}))
	}
	return l
}
