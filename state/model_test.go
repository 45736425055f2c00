package state_test

import (
	"cmp"
	"fmt"
	"maps"
	"math"
	"math/rand/v2"
	"regexp"
	"slices"

	"afterglow/api"
	"afterglow/event"
	"afterglow/hist"
	"afterglow/name"
	"afterglow/sess"
	"afterglow/span"
	"afterglow/state"
	"afterglow/subs"
)

const (
	least    = math.MinInt
	greatest = math.MaxInt
	forever  = 1 << 40
	last     = forever - 1
)

func stay(from, to, n, status int) hist.Stay {
	return hist.Stay{Span: span.Span{From: from, To: to}, N: n, Status: status}
}

func session(n int, user string, status, from int) sess.Entry {
	return sess.Entry{N: n, User: user, Status: status, From: from}
}

func entry(w, u string, from, to int) subs.Entry {
	return subs.Entry{Pair: name.Pair{W: w, U: u}, Span: span.Span{From: from, To: to}}
}

func stayed(user string, l ...hist.Stay) state.User { return state.User{Name: user, Stays: l} }

func open(at int, user string, n, status int) event.Event {
	return event.Event{Kind: event.Open, At: at, User: user, N: n, Status: status}
}

func change(at int, user string, n, status int) event.Event {
	return event.Event{Kind: event.Change, At: at, User: user, N: n, Status: status}
}

func shut(at int, user string, n int) event.Event {
	return event.Event{Kind: event.Close, At: at, User: user, N: n}
}

func grant(at int, w, u string) event.Event {
	return event.Event{Kind: event.Grant, At: at, User: w, Other: u}
}

func revoke(at int, w, u string) event.Event {
	return event.Event{Kind: event.Revoke, At: at, User: w, Other: u}
}

func retain(at, n int) event.Event { return event.Event{Kind: event.Retain, At: at, N: n} }

func erase(at int, user string) event.Event {
	return event.Event{Kind: event.Erase, At: at, User: user}
}

// text is all of a state; an empty list is shown as none is.
func text(s state.State) string { return fmt.Sprintf("%+v", s) }

// clone is s in memory of its own, without room behind its lists.
func clone(s state.State) state.State {
	s.Open, s.Subs, s.Tombs = slices.Clip(slices.Clone(s.Open)), slices.Clip(slices.Clone(s.Subs)), slices.Clip(slices.Clone(s.Tombs))
	var users []state.User
	for _, x := range s.Users {
		users = append(users, state.User{Name: x.Name, Stays: slices.Clip(slices.Clone(x.Stays))})
	}
	s.Users = slices.Clip(users)
	return s
}

// The model: the chapter's words written a second time, more plainly, in maps of what there is, without the layers below.

type model struct {
	now, horizon int
	open         map[int]sess.Entry
	stays        map[string][]hist.Stay
	force        map[name.Pair]int // since when
	over         []subs.Entry
	tombs        map[string]int
}

func nothing() model {
	return model{open: map[int]sess.Entry{}, stays: map[string][]hist.Stay{}, force: map[name.Pair]int{}, tombs: map[string]int{}}
}

func modelOf(s state.State) model {
	m := nothing()
	m.now, m.horizon = s.Now, s.Horizon
	for _, e := range s.Open {
		m.open[e.N] = e
	}
	for _, x := range s.Users {
		m.stays[x.Name] = slices.Clone(x.Stays)
	}
	for _, e := range s.Subs {
		if e.To == forever {
			m.force[e.Pair] = e.From
		} else {
			m.over = append(m.over, e)
		}
	}
	for _, x := range s.Tombs {
		m.tombs[x.User] = x.At
	}
	return m
}

func (m model) state() state.State {
	s := state.State{Now: m.now, Horizon: m.horizon, Subs: slices.Clone(m.over)}
	for _, n := range slices.Sorted(maps.Keys(m.open)) {
		s.Open = append(s.Open, m.open[n])
	}
	for _, user := range slices.Sorted(maps.Keys(m.stays)) {
		if len(m.stays[user]) > 0 {
			s.Users = append(s.Users, stayed(user, sorted(m.stays[user])...))
		}
	}
	for p, from := range m.force {
		s.Subs = append(s.Subs, subs.Entry{Pair: p, Span: span.Span{From: from, To: forever}})
	}
	slices.SortFunc(s.Subs, func(e, o subs.Entry) int {
		return cmp.Or(cmp.Compare(e.W, o.W), cmp.Compare(e.U, o.U), cmp.Compare(e.From, o.From))
	})
	for _, user := range slices.Sorted(maps.Keys(m.tombs)) {
		s.Tombs = append(s.Tombs, state.Tomb{User: user, At: m.tombs[user]})
	}
	return s
}

func sorted(l []hist.Stay) []hist.Stay {
	l = slices.Clone(l)
	slices.SortFunc(l, func(s, o hist.Stay) int {
		return slices.Compare([]int{s.From, s.To, s.N, s.Status}, []int{o.From, o.To, o.N, o.Status})
	})
	return l
}

var aName = regexp.MustCompile(`\A[a-z0-9]{1,12}\z`)

func within(n, from, to int) bool { return from <= n && n <= to }

// mayBe: may there be such an event?
func mayBe(e event.Event) bool {
	user, other := aName.MatchString(e.User), aName.MatchString(e.Other)
	if !within(e.At, 0, last) {
		return false
	}
	switch e.Kind {
	case event.Open, event.Change:
		return user && e.Other == "" && within(e.N, 1, 999) && within(e.Status, 1, 4)
	case event.Close:
		return user && e.Other == "" && within(e.N, 1, 999) && e.Status == 0
	case event.Grant, event.Revoke:
		return user && other && e.N == 0 && e.Status == 0
	case event.Retain:
		return e.User == "" && e.Other == "" && within(e.N, 0, last) && e.Status == 0
	case event.Erase:
		return user && e.Other == "" && e.N == 0 && e.Status == 0
	}
	return false
}

// take does to the model what the event does; with an error nothing.
func (m *model) take(e event.Event) api.Errno {
	if !mayBe(e) {
		return api.ErrStateForm
	}
	if e.At < m.now {
		return api.ErrStateTime
	}
	if err := m.does(e); err != api.OK {
		return err
	}
	m.now = e.At
	return api.OK
}

func (m *model) does(e event.Event) api.Errno {
	p := name.Pair{W: e.User, U: e.Other}
	from, on := m.force[p]
	switch e.Kind {
	case event.Open:
		if _, is := m.open[e.N]; is {
			return api.ErrSessOpen
		}
		if len(m.open) > 15 {
			return api.ErrSessMany
		}
		m.open[e.N] = session(e.N, e.User, e.Status, e.At)
	case event.Change, event.Close:
		return m.turn(e)
	case event.Grant:
		if on {
			return api.ErrSubsOn
		}
		m.force[p] = e.At
	case event.Revoke:
		if !on {
			return api.ErrSubsOff
		}
		delete(m.force, p)
		if from < e.At {
			m.over = append(m.over, entry(e.User, e.Other, from, e.At))
		}
	case event.Retain:
		if e.N > m.horizon {
			m.horizon = e.N
		}
	case event.Erase:
		m.erase(e.User)
		m.tombs[e.User] = e.At
	}
	return api.OK
}

// turn changes or closes a session that is open.
func (m *model) turn(e event.Event) api.Errno {
	was, is := m.open[e.N]
	if !is {
		return api.ErrSessNone
	}
	if was.User != e.User {
		return api.ErrSessUser
	}
	m.end(was, e.At)
	if e.Kind == event.Change {
		m.open[e.N] = session(e.N, e.User, e.Status, e.At)
	}
	return api.OK
}

func (m *model) end(e sess.Entry, at int) {
	delete(m.open, e.N)
	if e.From < at {
		m.stays[e.User] = append(m.stays[e.User], stay(e.From, at, e.N, e.Status))
	}
}

func (m *model) erase(user string) {
	maps.DeleteFunc(m.open, func(_ int, e sess.Entry) bool { return e.User == user })
	delete(m.stays, user)
	maps.DeleteFunc(m.force, func(p name.Pair, _ int) bool { return p.W == user || p.U == user })
	m.over = slices.DeleteFunc(m.over, func(e subs.Entry) bool { return e.W == user || e.U == user })
}

func (m *model) reset() {
	for _, e := range maps.Clone(m.open) {
		m.end(e, m.now)
	}
}

func (m *model) prune() {
	for user, l := range m.stays {
		m.stays[user] = slices.DeleteFunc(l, func(s hist.Stay) bool { return s.To <= m.horizon })
	}
	m.over = slices.DeleteFunc(m.over, func(e subs.Entry) bool { return e.To <= m.horizon })
}

// upTo is all stays of a user, those of its open sessions up to now among them.
func (m *model) upTo(user string, now int) []hist.Stay {
	l := slices.Clone(m.stays[user])
	for _, e := range m.open {
		if e.User == user && e.From < now {
			l = append(l, stay(e.From, now, e.N, e.Status))
		}
	}
	return sorted(l)
}

// things are those that Count counts: whom each of them is of.
func (m *model) things() [][]string {
	var l [][]string
	for _, e := range m.open {
		l = append(l, []string{e.User})
	}
	for user, have := range m.stays {
		for range have {
			l = append(l, []string{user})
		}
	}
	for p := range m.force {
		l = append(l, []string{p.W, p.U})
	}
	for _, e := range m.over {
		l = append(l, []string{e.W, e.U})
	}
	for user := range m.tombs {
		l = append(l, []string{user})
	}
	return l
}

// isRight is the chapter's Right, list by list.
func isRight(s state.State) bool {
	if !within(s.Now, 0, last) || !within(s.Horizon, 0, last) || len(s.Open) > 16 {
		return false
	}
	until := map[int]int{}
	for i, e := range s.Open {
		if !aName.MatchString(e.User) || !within(e.N, 1, 999) || !within(e.Status, 1, 4) || !within(e.From, 0, s.Now) || i > 0 && s.Open[i-1].N >= e.N {
			return false
		}
		until[e.N] = e.From
	}
	for i, x := range s.Users {
		if !aName.MatchString(x.Name) || i > 0 && s.Users[i-1].Name >= x.Name || !areRight(x.Stays, s.Now, until) {
			return false
		}
	}
	for i, e := range s.Subs {
		if !aName.MatchString(e.W) || !aName.MatchString(e.U) || !within(e.From, 0, s.Now) || e.To <= e.From || e.To > s.Now && e.To != forever || i > 0 && !comes(s.Subs[i-1], e) {
			return false
		}
	}
	for i, x := range s.Tombs {
		if !aName.MatchString(x.User) || !within(x.At, 0, s.Now) || i > 0 && s.Tombs[i-1].User >= x.User {
			return false
		}
	}
	return true
}

func areRight(l []hist.Stay, now int, until map[int]int) bool {
	for i, x := range l {
		from, open := until[x.N]
		if !within(x.N, 1, 999) || !within(x.Status, 1, 4) || x.From < 0 || x.To <= x.From || x.To > now || open && x.To > from {
			return false
		}
		if i > 0 && slices.Equal(sorted(l[i-1:i+1]), []hist.Stay{x, l[i-1]}) {
			return false
		}
	}
	return len(l) > 0
}

// comes: may e come behind the entry ahead of it?
func comes(ahead, e subs.Entry) bool {
	if ahead.Pair == e.Pair {
		return ahead.To <= e.From
	}
	return ahead.W < e.W || ahead.W == e.W && ahead.U < e.U
}

// names are few, so that things share them; none stands within another one.
func names() []string { return []string{"ann", "bob", "eve", "zoe", "7up"} }

func pick[T any](r *rand.Rand, l []T) T { return l[r.IntN(len(l))] }

// timeUpTo is a time of at most t.
func timeUpTo(r *rand.Rand, t int) int {
	return pick(r, []int{0, t, max(t-1, 0), r.IntN(min(t, 25) + 1), r.IntN(min(t, 25) + 1)})
}

// made is a right state, of parts that stand together by chance.
func made(r *rand.Rand) state.State {
	m := nothing()
	m.now = pick(r, []int{0, 1, 9, 20, 20, 20, last})
	m.horizon = pick(r, []int{0, timeUpTo(r, m.now), timeUpTo(r, m.now), m.now, last})
	sessions := pick(r, []int{0, 1, 4, 4, 15, 16})
	for len(m.open) < sessions {
		n := pick(r, []int{1, 999, 1 + r.IntN(5), 1 + r.IntN(30)})
		m.open[n] = session(n, pick(r, names()), 1+r.IntN(4), timeUpTo(r, m.now))
	}
	for _, user := range names() {
		for range r.IntN(5) {
			m.mayStay(r, user)
		}
	}
	for range r.IntN(8) {
		m.maySee(r)
	}
	for range r.IntN(4) {
		m.tombs[pick(r, names())] = timeUpTo(r, m.now)
	}
	return m.state()
}

// mayStay adds a stay of the user, if there is time for it, and it is not there.
func (m *model) mayStay(r *rand.Rand, user string) {
	n := pick(r, []int{1, 999, 1 + r.IntN(5), 1 + r.IntN(30)})
	to := timeUpTo(r, m.now)
	if e, is := m.open[n]; is {
		to = timeUpTo(r, e.From)
	}
	s := stay(timeUpTo(r, to), to, n, 1+r.IntN(4))
	if s.From < s.To && !slices.Contains(m.stays[user], s) {
		m.stays[user] = append(m.stays[user], s)
	}
}

// maySee adds an entry, or some, of a pair that has none yet.
func (m *model) maySee(r *rand.Rand) {
	p := name.Pair{W: pick(r, names()), U: pick(r, names())}
	if _, is := m.force[p]; is || slices.ContainsFunc(m.over, func(e subs.Entry) bool { return e.Pair == p }) {
		return
	}
	at := 0
	for range r.IntN(3) {
		from := at + timeUpTo(r, m.now-at)
		if at = from + timeUpTo(r, m.now-from); from < at {
			m.over = append(m.over, entry(p.W, p.U, from, at))
		}
	}
	if r.IntN(2) == 0 {
		m.force[p] = at + timeUpTo(r, m.now-at)
	}
}

// someEvent is one that often does something to s, or nearly so.
func someEvent(r *rand.Rand, s state.State) event.Event {
	at := pick(r, []int{s.Now, s.Now, s.Now + 1, s.Now + r.IntN(9), last, s.Now - 1})
	user, other := pick(r, names()), pick(r, names())
	n, status := 1+r.IntN(30), 1+r.IntN(4)
	if len(s.Open) > 0 && r.IntN(2) == 0 {
		e := pick(r, s.Open)
		n = e.N
		if r.IntN(4) > 0 {
			user = e.User
		}
	}
	if len(s.Subs) > 0 && r.IntN(2) == 0 {
		e := pick(r, s.Subs)
		user, other = e.W, e.U
	}
	e := pick(r, []event.Event{
		open(at, user, n, status),
		change(at, user, n, status),
		shut(at, user, n),
		grant(at, user, other),
		revoke(at, user, other),
		retain(at, pick(r, []int{0, s.Horizon, s.Horizon + 1, s.Horizon - 1, s.Now, s.Now + 1, r.IntN(25), last})),
		erase(at, user),
	})
	if r.IntN(10) == 0 {
		e = bent(r, e)
	}
	return e
}

// bent is the event with one field that may be wrong.
func bent(r *rand.Rand, e event.Event) event.Event {
	numbers := []int{least, -1, 0, 1, 4, 5, 999, 1000, last, forever, greatest}
	texts := []string{"", "a", "A", "aaaaaaaaaaaa", "aaaaaaaaaaaaa", "ann"}
	switch r.IntN(6) {
	case 0:
		e.Kind = pick(r, []int{least, -1, 0, 1, 2, 3, 4, 5, 6, 7, 8, greatest})
	case 1:
		e.At = pick(r, numbers)
	case 2:
		e.User = pick(r, texts)
	case 3:
		e.Other = pick(r, texts)
	case 4:
		e.N = pick(r, numbers)
	default:
		e.Status = pick(r, numbers)
	}
	return e
}

// turned is s with one thing changed, so that it may be right no more.
func turned(r *rand.Rand, s state.State) state.State {
	s = clone(s)
	near := func(n int) int {
		return pick(r, []int{n - 1, n + 1, s.Now, s.Now + 1, s.Now - 1, -1, 0, 1, 4, 5, 999, 1000, last, forever, least, greatest})
	}
	someName := func() string {
		return pick(r, append(names(), "", "A", "aaaaaaaaaaaa", "aaaaaaaaaaaaa", "a b"))
	}
	switch r.IntN(6) {
	case 0:
		s.Now = near(s.Now)
	case 1:
		s.Horizon = near(s.Horizon)
	case 2:
		s.Open = turnedList(r, s.Open, func(e *sess.Entry) {
			pick(r, []func(){func() { e.N = near(e.N) }, func() { e.User = someName() }, func() { e.Status = near(e.Status) }, func() { e.From = near(e.From) }})()
		})
	case 3:
		s.Users = turnedList(r, s.Users, func(x *state.User) {
			pick(r, []func(){func() { x.Name = someName() }, func() { x.Stays = nil }, func() { x.Stays = turnedStays(r, x.Stays, near) }, func() { x.Stays = turnedStays(r, x.Stays, near) }})()
		})
	case 4:
		s.Subs = turnedList(r, s.Subs, func(e *subs.Entry) {
			pick(r, []func(){func() { e.W = someName() }, func() { e.U = someName() }, func() { e.From = near(e.From) }, func() { e.To = near(e.To) }})()
		})
	default:
		s.Tombs = turnedList(r, s.Tombs, func(x *state.Tomb) {
			pick(r, []func(){func() { x.User = someName() }, func() { x.At = near(x.At) }})()
		})
	}
	return s
}

func turnedStays(r *rand.Rand, l []hist.Stay, near func(int) int) []hist.Stay {
	return turnedList(r, l, func(s *hist.Stay) {
		pick(r, []func(){func() { s.From = near(s.From) }, func() { s.To = near(s.To) }, func() { s.N = near(s.N) }, func() { s.Status = near(s.Status) }})()
	})
}

// turnedList has one part that is changed, or stands twice, or is left out, or two that changed their places.
func turnedList[T any](r *rand.Rand, l []T, turn func(part *T)) []T {
	l = slices.Clone(l)
	if len(l) == 0 {
		return l
	}
	i, j := r.IntN(len(l)), r.IntN(len(l))
	switch r.IntN(7) {
	case 0:
		return slices.Insert(l, i, l[j])
	case 1:
		return slices.Delete(l, i, i+1)
	case 2:
		l[i], l[j] = l[j], l[i]
	default:
		turn(&l[i])
	}
	return l
}
