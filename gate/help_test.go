package gate_test

import (
	"fmt"
	"math/rand/v2"

	"afterglow/api"
	"afterglow/event"
	"afterglow/fold"
	"afterglow/gate"
	"afterglow/hist"
	"afterglow/name"
	"afterglow/sess"
	"afterglow/span"
	"afterglow/state"
	"afterglow/subs"
)

const (
	forever = 1 << 40
	last    = forever - 1
)

func open(at int, user string, n, status int) event.Event {
	return event.Event{Kind: event.Open, At: at, User: user, N: n, Status: status}
}

func change(at int, user string, n, status int) event.Event {
	return event.Event{Kind: event.Change, At: at, User: user, N: n, Status: status}
}

func shut(at int, user string, n int) event.Event {
	return event.Event{Kind: event.Close, At: at, User: user, N: n}
}

func grant(at int, w, u string) event.Event {
	return event.Event{Kind: event.Grant, At: at, User: w, Other: u}
}

func revoke(at int, w, u string) event.Event {
	return event.Event{Kind: event.Revoke, At: at, User: w, Other: u}
}

func retain(at, n int) event.Event { return event.Event{Kind: event.Retain, At: at, N: n} }

func erase(at int, user string) event.Event {
	return event.Event{Kind: event.Erase, At: at, User: user}
}

func stay(from, to, n, status int) hist.Stay {
	return hist.Stay{Span: span.Span{From: from, To: to}, N: n, Status: status}
}

func session(n int, user string, status, from int) sess.Entry {
	return sess.Entry{N: n, User: user, Status: status, From: from}
}

func entry(w, u string, from, to int) subs.Entry {
	return subs.Entry{Pair: name.Pair{W: w, U: u}, Span: span.Span{From: from, To: to}}
}

func stayed(user string, l ...hist.Stay) state.User { return state.User{Name: user, Stays: l} }

func pair(w, u string) name.Pair { return name.Pair{W: w, U: u} }

func ask(w, u string, from, to, now int) gate.Ask {
	return gate.Ask{Pair: pair(w, u), Span: span.Span{From: from, To: to}, Now: now}
}

// base is a state of the time 20: ann stayed, and has two open sessions; bob might see her at some times, cat at some others, and up to 20 still.
func base() state.State {
	return state.State{
		Now:  20,
		Open: []sess.Entry{session(1, "ann", 4, 17), session(3, "ann", 1, 20), session(5, "cat", 2, 6)},
		Users: []state.User{
			stayed("ann", stay(2, 10, 1, 1), stay(4, 6, 2, 2), stay(10, 12, 1, 2), stay(13, 16, 2, 3)),
			stayed("bob", stay(1, 19, 7, 1)),
		},
		Subs: []subs.Entry{
			entry("ann", "bob", 0, 3),
			entry("bob", "ann", 3, 5),
			entry("bob", "ann", 8, 11),
			entry("bob", "ann", 11, 14),
			entry("cat", "ann", 0, 2),
			entry("cat", "ann", 15, forever),
			entry("eve", "eve", 0, forever),
		},
		Tombs: []state.Tomb{{User: "max", At: 9}},
	}
}

// with is base with something changed.
func with(turn func(s *state.State)) state.State {
	s := base()
	turn(&s)
	return s
}

// text is all of a state, or of a row; an empty list is shown as none is.
func text[T any](x T) string { return fmt.Sprintf("%+v", x) }

func pick[T any](r *rand.Rand, l []T) T { return l[r.IntN(len(l))] }

// names are few, so that things share them.
func names() []string { return []string{"ann", "bob", "cat"} }

// lived is a state that came from events.
func lived(r *rand.Rand, count int) state.State {
	var s state.State
	for range count {
		if next, err := state.Apply(s, someEvent(r, s)); err == api.OK {
			s = next
		}
	}
	return s
}

// someEvent may come behind s, most times.
func someEvent(r *rand.Rand, s state.State) event.Event {
	at := s.Now + pick(r, []int{0, 0, 1, 1, 2, 3})
	user, other := pick(r, names()), pick(r, names())
	n := 1 + r.IntN(6)
	if len(s.Open) > 0 {
		e := pick(r, s.Open)
		n, user = e.N, e.User
	}
	switch r.IntN(40) {
	case 0:
		return erase(at, user)
	case 1, 2:
		return retain(at, r.IntN(max(at-9, 0)+1))
	case 3, 4, 5, 6, 7, 8, 9, 10, 11, 12:
		return open(at, other, 1+r.IntN(6), 1+r.IntN(4))
	case 13, 14, 15, 16, 17:
		return change(at, user, n, 1+r.IntN(4))
	case 18, 19, 20, 21:
		return shut(at, user, n)
	case 22, 23, 24, 25, 26, 27, 28, 29, 30:
		return revoke(at, pick(r, names()), other)
	}
	return grant(at, pick(r, names()), other)
}

// behind is the state behind the events, each of which is taken.
func behind(l ...event.Event) state.State {
	s, told := fold.Fold(state.State{}, l...)
	for i, e := range told {
		if e != api.OK {
			panic(fmt.Sprint("not taken: ", l[i], e))
		}
	}
	return s
}
