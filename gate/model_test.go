package gate_test

import (
	"cmp"
	"math/rand/v2"
	"regexp"
	"slices"
	"testing"

	"afterglow/api"
	"afterglow/gate"
	"afterglow/hist"
	"afterglow/name"
	"afterglow/span"
	"afterglow/state"
	"afterglow/subs"
)

// The model: the chapter's words written a second time, more plainly, time by time, without the layers below.

var aName = regexp.MustCompile(`\A[a-z0-9]{1,12}\z`)

// mightSee: might the pair's watcher see its user at t?
func mightSee(s state.State, p name.Pair, t int) bool {
	return slices.ContainsFunc(s.Subs, func(e subs.Entry) bool {
		return e.W == p.W && e.U == p.U && e.From <= t && t < e.To
	})
}

// isTold: is the watcher told of t?
func isTold(s state.State, q gate.Ask, t int) bool {
	return q.From <= t && t < q.To && s.Horizon <= t && t < forever && mightSee(s, q.Pair, t)
}

// allStays is those of a user, with those of its open sessions up to now.
func allStays(s state.State, user string, now int) []hist.Stay {
	var l []hist.Stay
	for _, x := range s.Users {
		if x.Name == user {
			l = append(l, x.Stays...)
		}
	}
	for _, e := range s.Open {
		if e.User == user {
			l = append(l, stay(e.From, now, e.N, e.Status))
		}
	}
	return l
}

// edges is all times, of small ones, at which something may begin or end.
func edges(s state.State, q gate.Ask) []int {
	l := []int{q.From, q.To, s.Horizon, forever}
	for _, e := range s.Subs {
		l = append(l, e.From, e.To)
	}
	for _, x := range allStays(s, q.U, q.Now) {
		l = append(l, x.From, x.To)
	}
	slices.Sort(l)
	return slices.Compact(l)
}

// rangeOf is Range: of each stay each row of times one behind the other of which the watcher is told.
func rangeOf(s state.State, q gate.Ask) ([]hist.Stay, api.Errno) {
	if !aName.MatchString(q.W) || !aName.MatchString(q.U) {
		return nil, api.ErrArg
	}
	if q.Now < s.Now || q.Now > last {
		return nil, api.ErrGateTime
	}
	var l []hist.Stay
	times := edges(s, q)
	for _, x := range allStays(s, q.U, q.Now) {
		begun := -1
		for _, t := range times {
			// Between two of these times nothing changes.
			is := x.From <= t && t < x.To && isTold(s, q, t)
			if is && begun < 0 {
				begun = t
			}
			if !is && begun >= 0 {
				l = append(l, stay(begun, t, x.N, x.Status))
				begun = -1
			}
		}
	}
	slices.SortFunc(l, func(a, b hist.Stay) int {
		return slices.Compare([]int{a.From, a.To, a.N, a.Status}, []int{b.From, b.To, b.N, b.Status})
	})
	return l, api.OK
}

// lastOf is Last, by all that is told.
func lastOf(s state.State, p name.Pair, now int) (int, bool, api.Errno) {
	l, err := rangeOf(s, gate.Ask{Pair: p, Span: span.Span{From: 0, To: forever}, Now: now})
	if len(l) == 0 {
		return 0, false, err
	}
	return slices.MaxFunc(l, func(a, b hist.Stay) int { return cmp.Compare(a.To, b.To) }).To, true, err
}

func somePair(r *rand.Rand) name.Pair {
	l := append(names(), names()...)
	l = append(append(l, l...), "zoe", "")
	return pair(pick(r, l), pick(r, l))
}

func someAsk(r *rand.Rand, s state.State) gate.Ask {
	now := s.Now + pick(r, []int{0, 0, 1, 2, 5, 9, last - s.Now, -1, forever - s.Now})
	from := pick(r, []int{0, 0, r.IntN(s.Now + 3), r.IntN(s.Now + 3), s.Horizon, s.Now, -5})
	to := pick(r, []int{r.IntN(s.Now + 9), from + r.IntN(20), from + 1, s.Now, s.Now + 9, forever, forever, forever + 9})
	return gate.Ask{Pair: somePair(r), Span: span.Span{From: from, To: to}, Now: now}
}

func TestAgainstTheModel(t *testing.T) {
	r := rand.New(rand.NewPCG(13, 1))
	several := 0
	for range 1500 {
		s := lived(r, r.IntN(70))
		for range 30 {
			q := someAsk(r, s)
			got, err := gate.Range(s, q)
			want, no := rangeOf(s, q)
			if !slices.Equal(got, want) || err != no {
				t.Fatalf("P13.1: Range of %+v, %+v: %v, %v; should be %v, %v", s, q, got, err, want, no)
			}
			if len(got) > 2 {
				several++
			}
			to, is, err := gate.Last(s, q.Pair, q.Now)
			wantTo, wantIs, no := lastOf(s, q.Pair, q.Now)
			if to != wantTo || is != wantIs || err != no {
				t.Fatalf("P13.2: Last of %+v, %+v, %d: %d, %v, %v; should be %d, %v, %v", s, q.Pair, q.Now, to, is, err, wantTo, wantIs, no)
			}
			for _, at := range append(edges(s, q), r.IntN(s.Now+9)) {
				for _, at := range []int{at - 1, at, at + 1} {
					if got, want := gate.Sees(s, q.Pair, at), mightSee(s, q.Pair, at); got != want {
						t.Fatalf("P13.2: Sees of %+v, %+v at %d: %v", s, q.Pair, at, got)
					}
				}
			}
		}
	}
	if several < 1000 {
		t.Errorf("few questions are answered by several stays: %d", several)
	}
}

// otherwise is s with other stays of u, but at times in which the pair's watcher might see it.
func otherwise(r *rand.Rand, s state.State, p name.Pair) state.State {
	stays := slices.DeleteFunc(allStays(state.State{Users: s.Users}, p.U, 0), func(x hist.Stay) bool {
		return unseen(s, p, x) && r.IntN(2) == 0
	})
	for range r.IntN(9) {
		from := r.IntN(s.Now + 1)
		// Sessions of such numbers are never open.
		x := stay(from, min(s.Now, from+1+r.IntN(9)), 900+r.IntN(99), 1+r.IntN(4))
		if from < x.To && unseen(s, p, x) && !slices.Contains(stays, x) {
			stays = append(stays, x)
		}
	}
	slices.SortFunc(stays, hist.Stay.Cmp)
	s.Users = slices.DeleteFunc(slices.Clone(s.Users), func(x state.User) bool { return x.Name == p.U })
	if len(stays) > 0 {
		s.Users = append(s.Users, stayed(p.U, stays...))
	}
	slices.SortFunc(s.Users, func(x, y state.User) int { return cmp.Compare(x.Name, y.Name) })
	return s
}

// unseen: has the stay no time in which the pair's watcher might see its user?
func unseen(s state.State, p name.Pair, x hist.Stay) bool {
	for t := x.From; t < x.To; t++ {
		if mightSee(s, p, t) {
			return false
		}
	}
	return true
}

func TestStaysUnseenChangeNothing(t *testing.T) {
	r := rand.New(rand.NewPCG(13, 2))
	told := 0
	for range 3000 {
		s := lived(r, r.IntN(70))
		q := someAsk(r, s)
		o := otherwise(r, s, q.Pair)
		if name.All(q.W, q.U) && !state.Right(o) {
			t.Fatalf("the test itself: %+v is not right", o)
		}
		got, err := gate.Range(s, q)
		if l, no := gate.Range(o, q); !slices.Equal(l, got) || no != err {
			t.Fatalf("P13.3: Range of %+v: %+v tells %v, and %+v, that differs where it is not seen, %v", q, s, got, o, l)
		}
		to, is, err := gate.Last(s, q.Pair, q.Now)
		if n, has, no := gate.Last(o, q.Pair, q.Now); n != to || has != is || no != err {
			t.Fatalf("P13.3: Last of %+v: %+v tells %d, %v, and %+v, that differs where it is not seen, %d, %v", q, s, to, is, o, n, has)
		}
		if is && !state.Same(s, o) {
			told++
		}
	}
	if told < 300 {
		t.Errorf("few states that differ tell something: %d", told)
	}
}

func TestPrunedTellsTheSame(t *testing.T) {
	r := rand.New(rand.NewPCG(13, 3))
	told := 0
	for range 1500 {
		s := lived(r, r.IntN(90))
		pruned := state.Prune(s)
		for range 12 {
			q := someAsk(r, s)
			got, err := gate.Range(s, q)
			if l, no := gate.Range(pruned, q); !slices.Equal(l, got) || no != err {
				t.Fatalf("P13.3: Range of %+v: %+v tells %v, and pruned %v", q, s, got, l)
			}
			to, is, err := gate.Last(s, q.Pair, q.Now)
			if n, has, no := gate.Last(pruned, q.Pair, q.Now); n != to || has != is || no != err {
				t.Fatalf("P13.3: Last of %+v: %+v tells %d, %v, and pruned %d, %v", q, s, to, is, n, has)
			}
			if at := s.Horizon + r.IntN(20); gate.Sees(s, q.Pair, at) != gate.Sees(pruned, q.Pair, at) {
				t.Fatalf("P13.3: Sees of %+v at %d: %+v, and pruned, tell another thing", q.Pair, at, s)
			}
			if is && !state.Same(s, pruned) {
				told++
			}
		}
	}
	if told < 300 {
		t.Errorf("few pruned states tell something: %d", told)
	}
}
