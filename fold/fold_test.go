package fold_test

import (
	"math/rand/v2"
	"slices"
	"testing"

	"afterglow/api"
	"afterglow/event"
	"afterglow/fold"
	"afterglow/hist"
	"afterglow/sess"
	"afterglow/state"
	"afterglow/subs"
)

// folded is a state, events, what is told of each, and the state behind them.
type folded struct {
	what string
	from state.State
	l    []event.Event
	told []api.Errno
	want state.State
}

func fromNothing() []folded {
	none := state.State{}
	annIs := state.State{Now: 3, Open: []sess.Entry{session(1, "ann", 1, 3)}}
	return []folded{
		{"no events", none, nil, nil, none},
		{"an empty row", none, []event.Event{}, nil, none},
		{"one that is taken", none, []event.Event{open(3, "ann", 1, 1)}, []api.Errno{api.OK}, annIs},
		{"one that is refused", none, []event.Event{shut(3, "ann", 1)}, []api.Errno{api.ErrSessNone}, none},
		{"one that may not be", none, []event.Event{{}}, []api.Errno{api.ErrStateForm}, none},
		{
			"refused between two that are taken, as in the chapter's example", none,
			[]event.Event{open(3, "ann", 1, 1), open(4, "bob", 1, 1), shut(5, "ann", 1)},
			[]api.Errno{api.OK, api.ErrSessOpen, api.OK},
			state.State{Now: 5, Users: []state.User{stayed("ann", stay(3, 5, 1, 1))}},
		},
		{
			"the first one refused", none,
			[]event.Event{revoke(9, "bob", "ann"), open(3, "ann", 1, 1)},
			[]api.Errno{api.ErrSubsOff, api.OK}, annIs,
		},
		{
			"the last one refused", none,
			[]event.Event{open(3, "ann", 1, 1), open(9, "ann", 1, 1)},
			[]api.Errno{api.OK, api.ErrSessOpen}, annIs,
		},
		{
			"the first and the last one refused", none,
			[]event.Event{change(3, "ann", 1, 1), open(3, "ann", 1, 1), grant(2, "bob", "ann")},
			[]api.Errno{api.ErrSessNone, api.OK, api.ErrStateTime}, annIs,
		},
		{
			"all refused", none,
			[]event.Event{open(-1, "ann", 1, 1), shut(4, "ann", 1), revoke(5, "ann", "ann"), open(6, "Ann", 1, 1)},
			[]api.Errno{api.ErrStateForm, api.ErrSessNone, api.ErrSubsOff, api.ErrStateForm}, none,
		},
		{
			"at the same time, and one that is earlier", none,
			[]event.Event{grant(4, "bob", "ann"), revoke(4, "bob", "ann"), grant(3, "bob", "ann"), grant(4, "bob", "ann")},
			[]api.Errno{api.OK, api.OK, api.ErrStateTime, api.OK},
			state.State{Now: 4, Subs: []subs.Entry{entry("bob", "ann", 4, forever)}},
		},
		{
			"from the first time to the last one", none,
			[]event.Event{open(0, "ann", 1, 1), shut(last, "ann", 1), open(forever, "ann", 1, 1), retain(last, last)},
			[]api.Errno{api.OK, api.OK, api.ErrStateForm, api.OK},
			state.State{Now: last, Horizon: last, Users: []state.User{stayed("ann", stay(0, last, 1, 1))}},
		},
		{
			"opened, changed at the same time, changed later, closed at once, and opened by another user", none,
			[]event.Event{
				open(3, "ann", 1, 1), change(3, "ann", 1, 2), change(5, "ann", 1, 3), shut(5, "ann", 1), open(5, "bob", 1, 4),
			},
			[]api.Errno{api.OK, api.OK, api.OK, api.OK, api.OK},
			state.State{
				Now:   5,
				Open:  []sess.Entry{session(1, "bob", 4, 5)},
				Users: []state.User{stayed("ann", stay(3, 5, 1, 2))},
			},
		},
	}
}

func fromBase() []folded {
	return []folded{
		{"no events", base(), nil, nil, base()},
		{
			"each of the errors but that of too many", base(),
			[]event.Event{
				open(9, "Ann", 3, 1), open(8, "ann", 3, 1), open(9, "ann", 2, 1), change(9, "ann", 3, 1),
				shut(9, "ann", 2), grant(9, "ann", "eve"), revoke(9, "bob", "eve"),
			},
			[]api.Errno{
				api.ErrStateForm, api.ErrStateTime, api.ErrSessOpen, api.ErrSessNone,
				api.ErrSessUser, api.ErrSubsOn, api.ErrSubsOff,
			},
			base(),
		},
		{
			"one of each kind", base(),
			[]event.Event{
				open(9, "ann", 1, 4), change(10, "bob", 2, 2), shut(10, "bob", 8), grant(11, "bob", "eve"),
				revoke(12, "zoe", "bob"), retain(12, 6), erase(13, "eve"),
			},
			slices.Repeat([]api.Errno{api.OK}, 7),
			state.State{
				Now:     13,
				Horizon: 6,
				Open:    []sess.Entry{session(1, "ann", 4, 9), session(2, "bob", 2, 10)},
				Users:   []state.User{stayed("bob", stay(1, 4, 8, 1), stay(5, 10, 2, 1), stay(6, 7, 8, 2), stay(7, 10, 8, 3))},
				Subs:    []subs.Entry{entry("zoe", "bob", 9, 12)},
				Tombs:   []state.Tomb{{User: "eve", At: 13}, {User: "max", At: 9}},
			},
		},
		{
			"refused till there is one ahead, or is none any more", base(),
			[]event.Event{
				revoke(9, "bob", "eve"), grant(9, "bob", "eve"), grant(10, "bob", "eve"), revoke(10, "bob", "eve"),
				open(9, "ann", 5, 1), open(10, "ann", 5, 1), shut(11, "eve", 5), open(11, "ann", 5, 1),
			},
			[]api.Errno{api.ErrSubsOff, api.OK, api.ErrSubsOn, api.OK, api.ErrStateTime, api.ErrSessOpen, api.OK, api.OK},
			with(func(s *state.State) {
				s.Now = 11
				s.Open[1] = session(5, "ann", 1, 11)
				s.Users[1] = stayed("eve", stay(3, 5, 1, 4), stay(9, 11, 5, 2))
				s.Subs = slices.Insert(s.Subs, 2, entry("bob", "eve", 9, 10))
			}),
		},
	}
}

// tooMany opens more sessions than there may be; when one of them is closed, there may be one more.
func tooMany() folded {
	x := folded{what: "too many sessions", want: state.State{Now: 8, Users: []state.User{stayed("ann", stay(3, 7, 2, 1))}}}
	for n := range api.MaxOpen + 2 {
		x.l = append(x.l, open(3, "ann", 2*n+2, 1))
		x.told = append(x.told, api.OK)
		if n > 0 && n < api.MaxOpen {
			x.want.Open = append(x.want.Open, session(2*n+2, "ann", 1, 3))
		}
	}
	x.told[api.MaxOpen], x.told[api.MaxOpen+1] = api.ErrSessMany, api.ErrSessMany
	x.l = append(x.l, shut(7, "ann", 2), open(8, "ann", 99, 1), open(8, "ann", 100, 1))
	x.told = append(x.told, api.OK, api.OK, api.ErrSessMany)
	x.want.Open = append(x.want.Open, session(99, "ann", 1, 8))
	return x
}

func TestFold(t *testing.T) {
	for _, x := range slices.Concat(fromNothing(), fromBase(), []folded{tooMany()}) {
		got, told := fold.Fold(x.from, x.l...)
		if text(got) != text(x.want) || !slices.Equal(told, x.told) {
			t.Errorf("P12.1: Fold, %s: %v\n%s, not %v\n%s", x.what, told, text(got), x.told, text(x.want))
		}
		var taken []event.Event
		for i, e := range x.l {
			if x.told[i] == api.OK {
				taken = append(taken, e)
			}
		}
		if got := fold.Taken(x.from, x.l...); !slices.Equal(got, taken) {
			t.Errorf("P12.1: Taken, %s: %v, not %v", x.what, got, taken)
		}
		checkFolded(t, x.from, x.l)
	}
}

func TestWithout(t *testing.T) {
	l := []event.Event{
		open(3, "ann", 1, 1), open(3, "bob", 2, 1), grant(4, "ann", "bob"), grant(4, "bob", "ann"), revoke(5, "bob", "bob"),
		retain(5, 2), shut(2, "ann", 7), change(9, "bob", 1, 9), erase(9, "ann"), {Kind: 99, Other: "ann"}, open(3, "ann", 1, 1),
	}
	for _, x := range []struct {
		u     string
		given []event.Event
		left  []int
	}{
		{"ann", l, []int{1, 4, 5, 7}},
		{"bob", l, []int{0, 5, 6, 8, 9, 10}},
		{"eve", l, []int{0, 1, 2, 3, 4, 5, 6, 7, 8, 9, 10}},
		{"an", l, []int{0, 1, 2, 3, 4, 5, 6, 7, 8, 9, 10}},
		{"ann", nil, nil},
		{"ann", []event.Event{}, nil},
		{"ann", l[:1], nil},
		{"ann", l[2:4], nil},
		{"bob", l[1:5], nil},
		{"bob", l[:1], []int{0}},
		{"eve", l[:1], []int{0}},
		// An empty text is the Other of most of them, and the User of Retain.
		{"", l, []int{2, 3, 4}},
	} {
		var want []event.Event
		for _, place := range x.left {
			want = append(want, x.given[place])
		}
		if got := fold.Without(x.u, x.given...); !slices.Equal(got, want) {
			t.Errorf("P12.1: Without %q of %v:\n%v, not\n%v", x.u, x.given, got, want)
		}
	}
}

func TestLatest(t *testing.T) {
	for _, x := range []struct {
		at   []int
		want int
	}{
		{[]int{0}, 0},
		{[]int{7}, 7},
		{[]int{last}, last},
		{[]int{9, 3, 4}, 9},
		{[]int{3, 9, 4}, 9},
		{[]int{3, 4, 9}, 9},
		{[]int{9, 3, 9}, 9},
		{[]int{9, 9, 9}, 9},
		{[]int{0, 0}, 0},
		{[]int{-1}, -1},
		{[]int{-5, -3, -9}, -3},
		{[]int{-5, 0}, 0},
		{[]int{1 << 62, forever}, 1 << 62},
	} {
		var l []event.Event
		for _, at := range x.at {
			l = append(l, retain(at, 99))
		}
		if got, is := fold.Latest(l...); got != x.want || !is {
			t.Errorf("P12.1: Latest of %v: %d, %v", x.at, got, is)
		}
	}
	if got, is := fold.Latest(); got != 0 || is {
		t.Errorf("P12.1: Latest of none: %d, %v", got, is)
	}
	if got, is := fold.Latest([]event.Event{}...); got != 0 || is {
		t.Errorf("P12.1: Latest of an empty row: %d, %v", got, is)
	}
}

// checkFolded holds Fold and Taken against state.Apply of one event behind the other, and against themselves, in parts.
func checkFolded(t *testing.T, s state.State, l []event.Event) {
	t.Helper()
	want, wantTold := oneByOne(s, l)
	got, told := fold.Fold(s, l...)
	if text(got) != text(want) || !slices.Equal(told, wantTold) {
		t.Fatalf("P12.1: Fold of %v behind\n%s: %v\n%s, not %v\n%s", l, text(s), told, text(got), wantTold, text(want))
	}
	taken := fold.Taken(s, l...)
	var wantTaken []event.Event
	for i, err := range wantTold {
		if err == api.OK {
			wantTaken = append(wantTaken, l[i])
		}
	}
	if !slices.Equal(taken, wantTaken) {
		t.Fatalf("P12.1: Taken of %v behind\n%s:\n%v, not\n%v", l, text(s), taken, wantTaken)
	}
	again, told := fold.Fold(s, taken...)
	if text(again) != text(got) || len(told) != len(taken) || slices.ContainsFunc(told, func(err api.Errno) bool { return err != api.OK }) {
		t.Fatalf("P12.2: what was taken, %v, again behind\n%s: %v\n%s", taken, text(s), told, text(again))
	}
	if again := fold.Taken(s, taken...); !slices.Equal(again, taken) {
		t.Fatalf("P12.2: of what was taken, %v, is taken: %v", taken, again)
	}
}

// checkParts folds the events in three parts, the first up to one place, the second up to another one; a part may have none.
func checkParts(t *testing.T, s state.State, l []event.Event, one, other int) {
	t.Helper()
	want, wantTold := fold.Fold(s, l...)
	var told []api.Errno
	var taken []event.Event
	got := s
	for _, part := range [][]event.Event{l[:one], l[one:other], l[other:]} {
		taken = append(taken, fold.Taken(got, part...)...)
		next, errs := fold.Fold(got, part...)
		got, told = next, append(told, errs...)
	}
	if text(got) != text(want) || !slices.Equal(told, wantTold) || !slices.Equal(taken, fold.Taken(s, l...)) {
		t.Fatalf("P12.2: %v in parts at %d, %d, behind\n%s: %v\n%s", l, one, other, text(s), told, text(got))
	}
}

func TestParts(t *testing.T) {
	for _, x := range slices.Concat(fromNothing(), fromBase(), []folded{tooMany()}) {
		for other := range len(x.l) + 1 {
			for one := range other + 1 {
				checkParts(t, x.from, x.l, one, other)
			}
		}
	}
}

func TestFoldByChance(t *testing.T) {
	r := rand.New(rand.NewPCG(12, 1))
	seen := map[api.Errno]int{}
	for k := range 400 {
		from := pick(r, []state.State{{}, base()})
		l := lived(r, from, r.IntN(60))
		if k%4 == 0 {
			l = mixed(r, r.IntN(40))
		}
		checkFolded(t, from, l)
		other := r.IntN(len(l) + 1)
		checkParts(t, from, l, r.IntN(other+1), other)
		_, told := fold.Fold(from, l...)
		for _, err := range told {
			seen[err]++
		}
		for _, u := range append(names(), "", "max") {
			checkWithout(t, u, l)
		}
	}
	for _, err := range []api.Errno{
		api.OK, api.ErrStateForm, api.ErrStateTime, api.ErrSessOpen, api.ErrSessNone,
		api.ErrSessUser, api.ErrSessMany, api.ErrSubsOn, api.ErrSubsOff,
	} {
		if seen[err] < 50 {
			t.Errorf("the error %d was told of %d events alone", err, seen[err])
		}
	}
}

func checkWithout(t *testing.T, u string, l []event.Event) {
	t.Helper()
	latest, some := 0, false
	var want []event.Event
	for _, e := range l {
		if !some || e.At > latest {
			latest, some = e.At, true
		}
		if e.User != u && e.Other != u {
			want = append(want, e)
		}
	}
	if got := fold.Without(u, l...); !slices.Equal(got, want) {
		t.Fatalf("P12.1: Without %q of %v: %v", u, l, got)
	}
	if at, is := fold.Latest(l...); at != latest || is != some {
		t.Fatalf("P12.1: Latest of %v: %d, %v", l, at, is)
	}
}

// TestErased has a life of ann of all kinds, and what is left of it behind her erasure, and behind what she does then.
func TestErased(t *testing.T) {
	life := []event.Event{
		open(1, "ann", 1, 1), open(1, "ann", 2, 1), change(2, "ann", 2, 3), open(2, "bob", 3, 2), shut(4, "ann", 1),
		grant(4, "bob", "ann"), grant(4, "ann", "bob"), revoke(5, "bob", "ann"), grant(5, "eve", "bob"), shut(6, "bob", 3),
	}
	behind := []event.Event{
		open(8, "ann", 2, 4), change(9, "ann", 2, 1), grant(9, "bob", "ann"), shut(9, "ann", 1), open(9, "bob", 1, 1),
	}
	bobs := state.User{Name: "bob", Stays: []hist.Stay{stay(2, 6, 3, 2)}}
	left := state.State{
		Now:   7,
		Users: []state.User{bobs},
		Subs:  []subs.Entry{entry("eve", "bob", 5, forever)},
		Tombs: []state.Tomb{{User: "ann", At: 7}},
	}
	back := state.State{
		Now:   9,
		Open:  []sess.Entry{session(1, "bob", 1, 9), session(2, "ann", 1, 9)},
		Users: []state.User{stayed("ann", stay(8, 9, 2, 4)), bobs},
		Subs:  []subs.Entry{entry("bob", "ann", 9, forever), entry("eve", "bob", 5, forever)},
		Tombs: []state.Tomb{{User: "ann", At: 7}},
	}
	told := append(slices.Repeat([]api.Errno{api.OK}, 14), api.ErrSessNone, api.OK)
	for _, x := range []struct {
		ahead []event.Event
		told  []api.Errno
	}{
		{life, told},
		{fold.Without("ann", life...), told[10-len(fold.Without("ann", life...)):]},
	} {
		all := slices.Concat(x.ahead, []event.Event{erase(7, "ann")})
		if got, _ := fold.Fold(state.State{}, all...); text(got) != text(left) {
			t.Errorf("P12.3: %v:\n%s", all, text(got))
		}
		all = append(all, behind...)
		if got, errs := fold.Fold(state.State{}, all...); text(got) != text(back) || !slices.Equal(errs, x.told) {
			t.Errorf("P12.3: %v: %v\n%s", all, errs, text(got))
		}
	}
	// Erased once more, and one that there is nothing of.
	for _, u := range []string{"ann", "bob", "eve", "zoe", "max"} {
		for _, at := range []int{6, 7} {
			checkErased(t, life, u, at, behind)
			checkErased(t, slices.Concat(life, []event.Event{erase(6, u)}), u, at, behind)
			checkErased(t, slices.Concat(life, []event.Event{erase(6, "bob"), open(6, u, 5, 1)}), u, at, behind)
		}
		checkErased(t, nil, u, 0, behind)
		checkErased(t, nil, u, last, nil)
	}
}

// checkErased: is the state that of the events which do not bear u, and the erasure, whatever comes behind it?
func checkErased(t *testing.T, l []event.Event, u string, at int, behind []event.Event) {
	t.Helper()
	l = fold.Taken(state.State{}, l...)
	erasure := erase(at, u)
	s, told := fold.Fold(state.State{}, append(l, erasure)...)
	if told[len(l)] != api.OK {
		t.Fatalf("P12.3: %+v is refused behind %v: %d", erasure, l, told[len(l)])
	}
	never, told := fold.Fold(state.State{}, append(fold.Without(u, l...), erasure)...)
	if text(never) != text(s) || slices.ContainsFunc(told, func(err api.Errno) bool { return err != api.OK }) {
		t.Fatalf("P12.3: %+v behind %v:\n%s, not\n%s", erasure, l, text(s), text(never))
	}
	s, told = fold.Fold(s, behind...)
	never, neverTold := fold.Fold(never, behind...)
	if text(never) != text(s) || !slices.Equal(told, neverTold) {
		t.Fatalf("P12.3: %v behind %+v behind %v: %v\n%s, not %v\n%s", behind, erasure, l, told, text(s), neverTold, text(never))
	}
	whole, _ := fold.Fold(state.State{}, slices.Concat(l, []event.Event{erasure}, behind)...)
	without, _ := fold.Fold(state.State{}, slices.Concat(fold.Without(u, l...), []event.Event{erasure}, behind)...)
	if text(whole) != text(s) || text(without) != text(s) {
		t.Fatalf("P12.3: %v, %+v, %v, in one:\n%s, not\n%s", l, erasure, behind, text(whole), text(without))
	}
}

func TestErasedByChance(t *testing.T) {
	r := rand.New(rand.NewPCG(12, 2))
	for range 400 {
		l := lived(r, state.State{}, r.IntN(50))
		s, _ := fold.Fold(state.State{}, l...)
		u := pick(r, append(names(), "max"))
		at := s.Now + r.IntN(3)
		behind := lived(r, state.State{Now: at}, r.IntN(30))
		if r.IntN(2) == 0 {
			// Such that do things to what is left.
			s, _ = fold.Fold(s, erase(at, u))
			behind = lived(r, s, r.IntN(30))
		}
		checkErased(t, l, u, at, behind)
	}
}

// staysOf is the chapter's words: of what was taken, and of what is behind u's last erasure, each Open and Change, up to what ends it.
func staysOf(taken []event.Event, u string, asked int) []hist.Stay {
	for i, e := range slices.Backward(taken) {
		if e.Kind == event.Erase && e.User == u {
			taken = taken[i+1:]
			break
		}
	}
	var l []hist.Stay
	for i, e := range taken {
		if e.User != u || e.Kind != event.Open && e.Kind != event.Change {
			continue
		}
		to := asked
		for _, next := range taken[i+1:] {
			if next.N == e.N && (next.Kind == event.Change || next.Kind == event.Close) {
				to = next.At
				break
			}
		}
		if e.At < to {
			l = append(l, stay(e.At, to, e.N, e.Status))
		}
	}
	slices.SortFunc(l, func(s, o hist.Stay) int {
		return slices.Compare([]int{s.From, s.To, s.N, s.Status}, []int{o.From, o.To, o.N, o.Status})
	})
	return l
}

// checkStays holds the stays of all users behind the events against the chapter's words.
func checkStays(t *testing.T, l []event.Event) {
	t.Helper()
	s, _ := fold.Fold(state.State{}, l...)
	taken := fold.Taken(state.State{}, l...)
	for _, u := range append(names(), "max") {
		for _, asked := range []int{s.Now, s.Now + 1, s.Now + 7, last, forever} {
			if got, want := state.Stays(s, u, asked), staysOf(taken, u, asked); !slices.Equal(got, want) {
				t.Fatalf("P12.4: the stays of %s up to %d, of %v:\n%v, not\n%v", u, asked, taken, got, want)
			}
		}
	}
}

func TestStays(t *testing.T) {
	life := []event.Event{
		open(3, "ann", 1, 1),
		change(3, "ann", 1, 2),
		change(5, "ann", 1, 3),
		open(5, "ann", 7, 4),
		shut(5, "bob", 1),
		shut(5, "ann", 1),
		open(5, "bob", 1, 4),
		change(4, "bob", 1, 2),
		change(8, "bob", 1, 4),
	}
	for _, x := range []struct {
		u     string
		asked int
		more  []event.Event
		want  []hist.Stay
	}{
		{"ann", 8, nil, []hist.Stay{stay(3, 5, 1, 2), stay(5, 8, 7, 4)}},
		{"ann", 9, nil, []hist.Stay{stay(3, 5, 1, 2), stay(5, 9, 7, 4)}},
		{"bob", 8, nil, []hist.Stay{stay(5, 8, 1, 4)}},
		{"bob", 11, nil, []hist.Stay{stay(5, 8, 1, 4), stay(8, 11, 1, 4)}},
		{"eve", 11, nil, nil},
		{"ann", 12, []event.Event{shut(10, "ann", 7)}, []hist.Stay{stay(3, 5, 1, 2), stay(5, 10, 7, 4)}},
		{"ann", 12, []event.Event{erase(10, "ann")}, nil},
		{"bob", 12, []event.Event{erase(10, "ann")}, []hist.Stay{stay(5, 8, 1, 4), stay(8, 12, 1, 4)}},
		{"ann", 12, []event.Event{erase(9, "ann"), shut(10, "ann", 7), open(10, "ann", 7, 1)}, []hist.Stay{stay(10, 12, 7, 1)}},
		{"ann", 12, []event.Event{erase(9, "ann"), open(10, "ann", 7, 1), erase(11, "ann"), open(11, "ann", 2, 3)}, []hist.Stay{stay(11, 12, 2, 3)}},
	} {
		l := slices.Concat(life, x.more)
		s, _ := fold.Fold(state.State{}, l...)
		if got := state.Stays(s, x.u, x.asked); !slices.Equal(got, x.want) {
			t.Errorf("P12.4: the stays of %s up to %d, behind %v: %v, not %v", x.u, x.asked, x.more, got, x.want)
		}
		checkStays(t, l)
	}
}

func TestStaysByChance(t *testing.T) {
	r := rand.New(rand.NewPCG(12, 3))
	for range 400 {
		checkStays(t, lived(r, state.State{}, r.IntN(80)))
	}
}

// TestWrong has states and events of all kinds: each call ends, and none panics.
func TestWrong(t *testing.T) {
	r := rand.New(rand.NewPCG(12, 4))
	for _, s := range []state.State{
		{Now: -5, Horizon: 1 << 62},
		{Now: 1 << 62},
		with(func(s *state.State) { s.Now = 0 }),
		with(func(s *state.State) { slices.Reverse(s.Open) }),
		with(func(s *state.State) { s.Open[2] = s.Open[0] }),
		with(func(s *state.State) { s.Users[1].Stays = nil }),
		with(func(s *state.State) { s.Users[0].Name = "" }),
		with(func(s *state.State) { slices.Reverse(s.Subs) }),
		with(func(s *state.State) { s.Subs[0].To = -3 }),
		with(func(s *state.State) { s.Tombs[1] = s.Tombs[0] }),
		with(func(s *state.State) { s.Open = slices.Repeat(s.Open, 9) }),
	} {
		for range 20 {
			checkFolded(t, s, append(mixed(r, 10), open(1<<62, "ann", 1, 1), event.Event{Kind: -1, At: -1 << 63, N: -1 << 63}))
		}
	}
}

// TestMany has more events than there is room for in one page, or segment, or row of sessions.
func TestMany(t *testing.T) {
	const many = 20000
	var l []event.Event
	for k := range many / 2 {
		l = append(l, open(k, "ann", 1, 1), open(k, "bob", 1, 1))
	}
	s, told := fold.Fold(state.State{}, l...)
	if len(told) != many || len(fold.Taken(state.State{}, l...)) != 1 || s.Now != 0 || len(fold.Without("ann", l...)) != many/2 {
		t.Errorf("P12.1: many events, of which one is taken: %s", text(s))
	}
	if at, is := fold.Latest(l...); at != many/2-1 || !is {
		t.Errorf("P12.1: Latest of many: %d, %v", at, is)
	}
}
