package snap_test

import (
	"fmt"
	"hash/crc32"
	"math/rand/v2"
	"regexp"
	"slices"
	"strconv"
	"strings"

	"afterglow/api"
	"afterglow/event"
	"afterglow/frame"
	"afterglow/hist"
	"afterglow/name"
	"afterglow/sess"
	"afterglow/span"
	"afterglow/state"
	"afterglow/subs"
)

const (
	forever = 1 << 40
	last    = forever - 1
	longest = "zzzzzzzzzzzz"
)

func stay(from, to, n, status int) hist.Stay {
	return hist.Stay{Span: span.Span{From: from, To: to}, N: n, Status: status}
}

func session(n int, user string, status, from int) sess.Entry {
	return sess.Entry{N: n, User: user, Status: status, From: from}
}

func entry(w, u string, from, to int) subs.Entry {
	return subs.Entry{Pair: name.Pair{W: w, U: u}, Span: span.Span{From: from, To: to}}
}

func stayed(user string, l ...hist.Stay) state.User { return state.User{Name: user, Stays: l} }

func tomb(user string, at int) state.Tomb { return state.Tomb{User: user, At: at} }

// base is a right state with some things of each kind; what stands behind one another in it differs in one thing alone, now and then.
func base() state.State {
	return state.State{
		Now:     20,
		Horizon: 4,
		Open:    []sess.Entry{session(3, "cat", 1, 20), session(7, "ann", 3, 9), session(10, "ann", 4, 0)},
		Users: []state.User{
			stayed("ann", stay(0, 5, 1, 2), stay(3, 5, 1, 2), stay(3, 5, 1, 4), stay(3, 6, 7, 1)),
			stayed("bob", stay(0, 5, 1, 2)),
			stayed("cat", stay(9, 20, 2, 3), stay(10, 11, 999, 1)),
		},
		Subs: []subs.Entry{
			entry("ann", "bob", 1, 3),
			entry("ann", "bob", 3, forever),
			entry("ann", "cat", 0, 20),
			entry("bob", "ann", 5, forever),
			entry("eve", "eve", 0, 1),
		},
		Tombs: []state.Tomb{tomb("ann", 0), tomb("max", 20), tomb("x", 8)},
	}
}

// with is base with something changed.
func with(turn func(s *state.State)) state.State {
	s := base()
	turn(&s)
	return s
}

// ends is a state of the longest names, and the greatest numbers that it may have.
func ends() state.State {
	var s state.State
	s.Now, s.Horizon = last, last
	for i := range api.MaxOpen {
		s.Open = append(s.Open, session(984+i, longest, 4, last))
	}
	s.Users = []state.User{stayed(longest, stay(last-1, last, 998, 4), stay(last-1, last, 999, 4))}
	s.Subs = []subs.Entry{entry(longest, longest, last-1, last), entry(longest, longest, last, forever)}
	s.Tombs = []state.Tomb{tomb(longest, last)}
	return s
}

// rights are right states: of nothing, of one thing of each kind, and of many.
func rights() map[string]state.State {
	return map[string]state.State{
		"zero":               {},
		"empty lists":        {Open: []sess.Entry{}, Users: []state.User{}, Subs: []subs.Entry{}, Tombs: []state.Tomb{}},
		"numbers alone":      {Now: 9, Horizon: 5},
		"greatest numbers":   {Now: last, Horizon: last},
		"horizon ahead":      {Horizon: 7},
		"an open session":    {Open: []sess.Entry{session(1, "a", 1, 0)}},
		"a stay":             {Now: 1, Users: []state.User{stayed("a", stay(0, 1, 1, 1))}},
		"an entry":           {Now: 1, Subs: []subs.Entry{entry("a", "b", 0, 1)}},
		"an entry in force":  {Subs: []subs.Entry{entry("a", "b", 0, forever)}},
		"an entry of itself": {Subs: []subs.Entry{entry("a", "a", 0, forever)}},
		"a tomb":             {Tombs: []state.Tomb{tomb("a", 0)}},
		"one of each":        {Now: 9, Open: []sess.Entry{session(1, "a", 1, 9)}, Users: []state.User{stayed("a", stay(0, 9, 1, 1))}, Subs: []subs.Entry{entry("a", "b", 0, 9)}, Tombs: []state.Tomb{tomb("a", 9)}},
		"names of digits":    {Now: 9, Open: []sess.Entry{session(7, "7", 3, 9)}, Users: []state.User{stayed("0", stay(0, 9, 1, 1)), stayed("00", stay(0, 9, 1, 1)), stayed("1", stay(1, 9, 1, 1))}, Subs: []subs.Entry{entry("0", "1", 0, 9)}, Tombs: []state.Tomb{tomb("09", 9)}},
		"many":               base(),
		"ends":               ends(),
	}
}

// wrongs are states that are not right, each in one of the ways of layer 11.
func wrongs() map[string]state.State {
	all := map[string]func(s *state.State){
		"Now below 0":              func(s *state.State) { *s = state.State{Now: -1} },
		"Now of Forever":           func(s *state.State) { s.Now = forever },
		"the horizon below 0":      func(s *state.State) { s.Horizon = -1 },
		"the horizon of Forever":   func(s *state.State) { s.Horizon = forever },
		"Now ahead of all":         func(s *state.State) { s.Now = 0 },
		"too many are open":        func(s *state.State) { *s = ends(); s.Open = append([]sess.Entry{session(1, "a", 1, 1)}, s.Open...) },
		"open: no name":            func(s *state.State) { s.Open[1].User = "Ann" },
		"open: an empty name":      func(s *state.State) { s.Open[1].User = "" },
		"open: a long name":        func(s *state.State) { s.Open[1].User = longest + "z" },
		"open: N of 0":             func(s *state.State) { s.Open[0].N = 0 },
		"open: N of 1000":          func(s *state.State) { s.Open[2].N = 1000 },
		"open: status 0":           func(s *state.State) { s.Open[1].Status = 0 },
		"open: status 5":           func(s *state.State) { s.Open[1].Status = 5 },
		"open: From below 0":       func(s *state.State) { s.Open[1].From = -1 },
		"open: From above Now":     func(s *state.State) { s.Open[0].From = 21 },
		"open: twice":              func(s *state.State) { s.Open[1].N = 3 },
		"open: not rising":         func(s *state.State) { s.Open[0], s.Open[1] = s.Open[1], s.Open[0] },
		"users: no name":           func(s *state.State) { s.Users[0].Name = "Ann" },
		"users: an empty name":     func(s *state.State) { s.Users[0].Name = "" },
		"users: a blank":           func(s *state.State) { s.Users[0].Name = "a b" },
		"users: a long name":       func(s *state.State) { s.Users[2].Name = longest + "z" },
		"users: not rising":        func(s *state.State) { s.Users[0], s.Users[1] = s.Users[1], s.Users[0] },
		"users: twice":             func(s *state.State) { s.Users[2].Name = "bob" },
		"users: twice, apart":      func(s *state.State) { s.Users[2].Name = "ann" },
		"users: no stays":          func(s *state.State) { s.Users[1].Stays = nil },
		"stays: not rising":        func(s *state.State) { l := s.Users[0].Stays; l[0], l[1] = l[1], l[0] },
		"stays: twice":             func(s *state.State) { l := s.Users[0].Stays; l[1] = l[0] },
		"stays: no time":           func(s *state.State) { s.Users[1].Stays[0].To = 0 },
		"stays: N of 0":            func(s *state.State) { s.Users[1].Stays[0].N = 0 },
		"stays: N of 1000":         func(s *state.State) { s.Users[2].Stays[1].N = 1000 },
		"stays: status 0":          func(s *state.State) { s.Users[1].Stays[0].Status = 0 },
		"stays: status 5":          func(s *state.State) { s.Users[1].Stays[0].Status = 5 },
		"stays: From below 0":      func(s *state.State) { s.Users[1].Stays[0].From = -1 },
		"stays: To above Now":      func(s *state.State) { s.Users[2].Stays[0].To = 21 },
		"stays: To of Forever":     func(s *state.State) { s.Users[2].Stays[0].To = forever },
		"stays: it is open":        func(s *state.State) { s.Users[0].Stays[3].To = 10 },
		"stays: another's session": func(s *state.State) { s.Users[1].Stays[0].N = 10 },
		"entries: no watcher":      func(s *state.State) { s.Subs[0].W = "Ann" },
		"entries: no user":         func(s *state.State) { s.Subs[4].U = "eve!" },
		"entries: an empty name":   func(s *state.State) { s.Subs[4].U = "" },
		"entries: no time":         func(s *state.State) { s.Subs[4].To = 0 },
		"entries: not rising":      func(s *state.State) { s.Subs[2], s.Subs[3] = s.Subs[3], s.Subs[2] },
		"entries: by From":         func(s *state.State) { s.Subs[0], s.Subs[1] = s.Subs[1], s.Subs[0] },
		"entries: twice":           func(s *state.State) { s.Subs[1] = s.Subs[0] },
		"entries: no later":        func(s *state.State) { s.Subs[1].From = 2 },
		"entries: From below 0":    func(s *state.State) { s.Subs[0].From = -1 },
		"entries: From above Now":  func(s *state.State) { s.Subs[3].From = 21 },
		"entries: To above Now":    func(s *state.State) { s.Subs[2].To = 21 },
		"entries: above Forever":   func(s *state.State) { s.Subs[3].To = forever + 1 },
		"tombs: no name":           func(s *state.State) { s.Tombs[2].User = "x-y" },
		"tombs: an empty name":     func(s *state.State) { s.Tombs[0].User = "" },
		"tombs: not rising":        func(s *state.State) { s.Tombs[0], s.Tombs[1] = s.Tombs[1], s.Tombs[0] },
		"tombs: twice":             func(s *state.State) { s.Tombs[1].User = "ann" },
		"tombs: At below 0":        func(s *state.State) { s.Tombs[0].At = -1 },
		"tombs: At above Now":      func(s *state.State) { s.Tombs[1].At = 21 },
	}
	l := map[string]state.State{}
	for what, turn := range all {
		l[what] = with(turn)
	}
	return l
}

// text is all of a value; an empty list is shown as none is.
func text[T any](x T) string { return fmt.Sprintf("%+v", x) }

// shown is the frames, one behind the other, as the chapter shows them.
func shown(l []frame.Frame) string {
	var all []string
	for _, f := range l {
		all = append(all, fmt.Sprintf("%c: %s", f.Kind, f.Body))
	}
	return strings.Join(all, "; ")
}

// parsed are the frames that are shown so.
func parsed(s string) []frame.Frame {
	var l []frame.Frame
	for part := range strings.SplitSeq(s, "; ") {
		l = append(l, frame.Frame{Kind: part[0], Body: part[3:]})
	}
	return l
}

// The model: the chapter's words written a second time, without the layers below but for what is right.

// raw is the frames that a state would have, right or not.
func raw(s state.State) []frame.Frame {
	var l []frame.Frame
	tell := func(kind byte, form string, words ...any) {
		l = append(l, frame.Frame{Kind: kind, Body: fmt.Sprintf(form, words...)})
	}
	tell('m', "%d %d", s.Now, s.Horizon)
	for _, x := range s.Tombs {
		tell('t', "%s %d", x.User, x.At)
	}
	for _, x := range s.Users {
		for _, y := range x.Stays {
			tell('s', "%s %d %d %d %d", x.Name, y.From, y.To, y.N, y.Status)
		}
	}
	for _, x := range s.Subs {
		tell('w', "%s %s %d %d", x.W, x.U, x.From, x.To)
	}
	for _, x := range s.Open {
		tell('n', "%d %s %d %d", x.N, x.User, x.Status, x.From)
	}
	tell('z', "%d", len(l))
	return l
}

// packed is the frames' texts, one behind the other, with sums that the library makes.
func packed(l ...frame.Frame) string {
	var all strings.Builder
	for _, f := range l {
		summed := fmt.Sprintf("%c%04x%s", f.Kind, len(f.Body), f.Body)
		fmt.Fprintf(&all, "\xfe%s%08x", summed, crc32.Checksum([]byte(summed), crc32.MakeTable(crc32.Castagnoli)))
	}
	return all.String()
}

const (
	aName   = ` ([a-z0-9]{1,12})`
	aNumber = ` (0|[1-9][0-9]{0,12})`
)

// forms are the bodies of each kind, with a blank ahead.
var forms = map[byte]*regexp.Regexp{
	'm': regexp.MustCompile(`\A` + aNumber + aNumber + `\z`),
	't': regexp.MustCompile(`\A` + aName + aNumber + `\z`),
	's': regexp.MustCompile(`\A` + aName + aNumber + aNumber + aNumber + aNumber + `\z`),
	'w': regexp.MustCompile(`\A` + aName + aName + aNumber + aNumber + `\z`),
	'n': regexp.MustCompile(`\A` + aNumber + aName + aNumber + aNumber + `\z`),
	'z': regexp.MustCompile(`\A` + aNumber + `\z`),
}

var order = regexp.MustCompile(`\Amt*s*w*n*z\z`)

// read is Read of the frames' texts: by the forms of the frames, by their order, and by what is right.
func read(l ...frame.Frame) (state.State, bool) {
	kinds := ""
	var s state.State
	for _, f := range l {
		kinds += string(rune(f.Kind))
		if !tells(&s, f) {
			return state.State{}, false
		}
	}
	if !order.MatchString(kinds) || l[len(l)-1].Body != strconv.Itoa(len(l)-1) || !state.Right(s) {
		return state.State{}, false
	}
	return s, true
}

// tells adds to s what the frame tells, if it is of a form that is one.
func tells(s *state.State, f frame.Frame) bool {
	form, is := forms[f.Kind]
	if !is {
		return false
	}
	w := form.FindStringSubmatch(" " + f.Body)
	if w == nil {
		return false
	}
	n := make([]int, len(w))
	for i := range w {
		// A name of digits has fewer of them than Forever.
		if n[i], _ = strconv.Atoi(w[i]); n[i] > forever {
			return false
		}
	}
	switch f.Kind {
	case 'm':
		s.Now, s.Horizon = n[1], n[2]
	case 't':
		s.Tombs = append(s.Tombs, tomb(w[1], n[2]))
	case 's':
		if x := stay(n[2], n[3], n[4], n[5]); len(s.Users) > 0 && s.Users[len(s.Users)-1].Name == w[1] {
			l := &s.Users[len(s.Users)-1].Stays
			*l = append(*l, x)
		} else {
			s.Users = append(s.Users, stayed(w[1], x))
		}
	case 'w':
		s.Subs = append(s.Subs, entry(w[1], w[2], n[3], n[4]))
	case 'n':
		s.Open = append(s.Open, session(n[1], w[2], n[3], n[4]))
	}
	return true
}

func pick[T any](r *rand.Rand, l []T) T { return l[r.IntN(len(l))] }

// names are few, so that things share them.
func names() []string { return []string{"ann", "bob", "cat", "7", "12"} }

// lived is a state that came from events, and now and then was reset, or pruned.
func lived(r *rand.Rand, count int) state.State {
	var s state.State
	for range count {
		if next, err := state.Apply(s, someEvent(r, s)); err == api.OK {
			s = next
		}
	}
	switch r.IntN(6) {
	case 0:
		s = state.Reset(s)
	case 1:
		s = state.Prune(s)
	}
	return s
}

// someEvent may come behind s, most times.
func someEvent(r *rand.Rand, s state.State) event.Event {
	e := event.Event{At: s.Now + pick(r, []int{0, 0, 1, 1, 2, 30}), User: pick(r, names())}
	n := 1 + r.IntN(20)
	user := e.User
	if len(s.Open) > 0 {
		x := pick(r, s.Open)
		n, user = x.N, x.User
	}
	switch r.IntN(30) {
	case 0:
		e.Kind = event.Erase
	case 1:
		e.Kind, e.User, e.N = event.Retain, "", r.IntN(max(s.Now-40, 0)+1)
	case 2, 3, 4, 5, 6, 7, 8, 9:
		e.Kind, e.N, e.Status = event.Open, 1+r.IntN(20), 1+r.IntN(4)
	case 10, 11, 12, 13, 14, 15:
		e.Kind, e.User, e.N, e.Status = event.Change, user, n, 1+r.IntN(4)
	case 16, 17, 18, 19, 20:
		e.Kind, e.User, e.N = event.Close, user, n
	case 21, 22, 23, 24:
		e.Kind, e.Other = event.Revoke, pick(r, names())
	default:
		e.Kind, e.Other = event.Grant, pick(r, names())
	}
	return e
}

// turned is the frames with one thing changed: a frame, a word of one, or the order.
func turned(r *rand.Rand, l []frame.Frame) []frame.Frame {
	l = slices.Clone(l)
	i, j := r.IntN(len(l)), r.IntN(len(l))
	switch r.IntN(7) {
	case 0:
		l[i], l[j] = l[j], l[i]
	case 1:
		l = slices.Delete(l, i, i+1)
	case 2:
		l = slices.Insert(l, i, l[j])
	case 3:
		l[i].Kind = "mtswnzq"[r.IntN(7)]
	default:
		l[i].Body = turnedBody(r, l[i].Body)
	}
	// Now and then the end counts what is ahead of it, though something has changed.
	if k := len(l) - 1; k >= 0 && l[k].Kind == 'z' && r.IntN(2) == 0 {
		l[k].Body = strconv.Itoa(k)
	}
	return l
}

func turnedBody(r *rand.Rand, body string) string {
	words := strings.Split(body, " ")
	i := r.IntN(len(words))
	switch r.IntN(6) {
	case 0:
		words = slices.Delete(words, i, i+1)
	case 1:
		words = slices.Insert(words, i, words[r.IntN(len(words))])
	case 2:
		words[i] = "0" + words[i]
	case 3:
		n, _ := strconv.Atoi(words[i])
		words[i] = strconv.Itoa(n + pick(r, []int{-1, 1, 20, 1000, forever}))
	default:
		words[i] = pick(r, []string{"ann", "bob", "x", "A", "", "0", "1", "4", "5", "999", "1000", "1099511627775", "1099511627776", "1099511627777", "-1", "+1", "1.0", "!"})
	}
	return strings.Join(words, " ")
}
