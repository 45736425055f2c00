package gate_test

import (
	"math/rand/v2"
	"slices"
	"testing"

	"afterglow/gate"
	"afterglow/hist"
	"afterglow/state"
	"afterglow/subs"
)

// states are those of which a lazy answer would hand back what was given: of all stays, of some, and of none.
func states() []state.State {
	return []state.State{
		{},
		base(),
		with(func(s *state.State) { s.Open = nil }),
		with(func(s *state.State) { s.Open, s.Users = nil, nil }),
		with(func(s *state.State) { s.Open, s.Subs = nil, []subs.Entry{entry("bob", "ann", 0, forever)} }),
		with(func(s *state.State) {
			s.Open, s.Users = nil, []state.User{stayed("ann", stay(3, 5, 1, 1))}
		}),
	}
}

func questions() []gate.Ask {
	return []gate.Ask{
		ask("bob", "ann", 0, forever, 20),
		ask("bob", "ann", 4, 9, 20),
		ask("cat", "ann", 0, forever, 25),
		ask("ann", "bob", 0, forever, 20),
		ask("ann", "cat", 0, forever, 20),
		ask("bob", "ann", 9, 9, 20),
		ask("bob", "", 0, forever, 20),
		ask("bob", "ann", 0, forever, 19),
	}
}

// roomy is the list with room behind it, in which other things stand.
func roomy[T any](l []T, others ...T) []T { return append(slices.Clone(l), others...)[:len(l)] }

func roomyState(s state.State) state.State {
	s.Open = roomy(s.Open, session(77, "ann", 1, 1), session(78, "bob", 2, 2))
	s.Users = roomy(s.Users, stayed("ann", stay(1, 2, 3, 4)), stayed("bob"))
	for i, x := range s.Users {
		s.Users[i].Stays = roomy(x.Stays, stay(1, 2, 77, 1), stay(2, 3, 78, 2))
	}
	s.Subs = roomy(s.Subs, entry("bob", "ann", 1, 2), entry("cat", "ann", 3, 4))
	s.Tombs = roomy(s.Tombs, state.Tomb{User: "ann", At: 1})
	return s
}

// whole is s with what stands behind the ends of its lists.
func whole(s state.State) state.State {
	s.Open, s.Subs, s.Tombs = s.Open[:cap(s.Open)], s.Subs[:cap(s.Subs)], s.Tombs[:cap(s.Tombs)]
	s.Users = slices.Clone(s.Users[:cap(s.Users)])
	for i, x := range s.Users {
		s.Users[i].Stays = x.Stays[:cap(x.Stays)]
	}
	return s
}

// fill writes into a list, and behind its end.
func fill[T any](l []T, by T) {
	l = l[:cap(l)]
	for i := range l {
		l[i] = by
	}
}

// scrawl writes into all of a state, and behind the ends of its lists.
func scrawl(s state.State) {
	for _, x := range s.Users[:cap(s.Users)] {
		fill(x.Stays, stay(0, 99, 77, 3))
	}
	fill(s.Open, session(7, "ann", 3, 0))
	fill(s.Users, stayed("ann", stay(0, 99, 78, 3)))
	fill(s.Subs, entry("bob", "ann", 0, forever))
	fill(s.Tombs, state.Tomb{User: "ann", At: 7})
}

func TestGivenStaysAsItWas(t *testing.T) {
	for _, from := range states() {
		for _, q := range questions() {
			s := roomyState(from)
			before, behind := text(s), text(whole(s))
			got, _ := gate.Range(s, q)
			fill(got, hist.Stay{N: -7})
			gate.Last(s, q.Pair, q.Now)
			gate.Sees(s, q.Pair, 9)
			if text(s) != before || text(whole(s)) != behind {
				t.Errorf("R5: %+v, of\n%s: became\n%s", q, before, text(s))
			}
		}
	}
}

func TestToldIsTheCallersOwn(t *testing.T) {
	for _, from := range states() {
		for _, q := range questions() {
			s := roomyState(from)
			first, _ := gate.Range(s, q)
			second, _ := gate.Range(s, q)
			before := text(second)
			fill(first, hist.Stay{N: -7})
			if text(s) != text(from) || text(second) != before {
				t.Errorf("R6: %+v: written into what was told of\n%s:\n%s\n%v", q, text(from), text(s), second)
			}
			scrawl(s)
			if text(second) != before {
				t.Errorf("R6: %+v: written into what was given,\n%s: %v", q, text(from), second)
			}
		}
	}
}

func TestToldAgain(t *testing.T) {
	r := rand.New(rand.NewPCG(13, 4))
	for range 300 {
		from := lived(r, r.IntN(60))
		// With room behind the lists, and without: no answer hangs on it.
		s, q := roomyState(from), someAsk(r, from)
		l, err := gate.Range(from, q)
		to, is, _ := gate.Last(from, q.Pair, q.Now)
		for range 2 {
			again, no := gate.Range(s, q)
			n, has, _ := gate.Last(s, q.Pair, q.Now)
			if !slices.Equal(again, l) || no != err || n != to || has != is {
				t.Fatalf("R7: %+v of %s:\n%v, %d, and then\n%v, %d", q, text(from), l, to, again, n)
			}
		}
		if gate.Sees(s, q.Pair, q.From) != gate.Sees(from, q.Pair, q.From) {
			t.Fatalf("R7: Sees of %+v at %d", q.Pair, q.From)
		}
	}
}
