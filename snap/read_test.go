package snap_test

import (
	"math/rand/v2"
	"slices"
	"strconv"
	"strings"
	"testing"

	"afterglow/frame"
	"afterglow/snap"
	"afterglow/state"
)

// checkNone: the text is no state's.
func checkNone(t *testing.T, what, written string) {
	t.Helper()
	if s, is := snap.Read(written); is || text(s) != text(state.State{}) {
		t.Errorf("P15.3: Read of what is none, %s: %s, %v", what, text(s), is)
	}
}

// checkState: the text is that state's.
func checkState(t *testing.T, what, written string, want state.State) {
	t.Helper()
	if s, is := snap.Read(written); !is || text(s) != text(want) || !state.Same(s, want) {
		t.Errorf("P15.3: Read of %s: %s, %v; should be %s", what, text(s), is, text(want))
	}
}

// check holds Read of the frames against the model's.
func check(t *testing.T, what string, l ...frame.Frame) bool {
	t.Helper()
	want, has := read(l...)
	if s, is := snap.Read(packed(l...)); is != has || text(s) != text(want) {
		t.Fatalf("P15.2: Read, %s, of %s: %s, %v; should be %s, %v", what, shown(l), text(s), is, text(want), has)
	}
	return has
}

func TestReadWritten(t *testing.T) {
	for what, s := range rights() {
		checkState(t, what, snap.Write(s), s)
		checkState(t, what, packed(raw(s)...), s)
		if again, _ := snap.Read(snap.Write(s)); snap.Write(again) != snap.Write(s) {
			t.Errorf("P15.3: %s, written again: %q", what, snap.Write(again))
		}
	}
}

func TestReadNothing(t *testing.T) {
	for _, written := range []string{"", " ", "\xfe", "m", "m: 0 0; z: 1", "0 0", strings.Repeat("\xfe", 99), packed()} {
		checkNone(t, strconv.Quote(written), written)
	}
}

func TestReadCutOff(t *testing.T) {
	for what, s := range rights() {
		written := snap.Write(s)
		for i := range written {
			checkNone(t, what+", cut off", written[:i])
			if i > 0 {
				checkNone(t, what+", cut off ahead", written[i:])
			}
		}
	}
}

func TestReadWithMore(t *testing.T) {
	for what, s := range rights() {
		written := snap.Write(s)
		for c := range 256 {
			one := string([]byte{byte(c)})
			checkNone(t, what+", a byte behind", written+one)
			checkNone(t, what+", a byte ahead", one+written)
		}
		for _, body := range []string{"", "a", "0", "1", "2", "0 0", "a 0", "zz 0", "zzz 0 1 9 1", "zzz z 0 1099511627776", "999 a 1 0", strconv.Itoa(len(raw(s)))} {
			for kind := byte('a'); kind <= 'z'; kind++ {
				more := packed(frame.Frame{Kind: kind, Body: body})
				checkNone(t, what+", a frame behind", written+more)
				checkNone(t, what+", a frame ahead", more+written)
			}
		}
		checkNone(t, what+", twice", written+written)
		checkNone(t, what+", and nothing", written+snap.Write(state.State{}))
		checkNone(t, what+", behind nothing", snap.Write(state.State{})+written)
	}
}

func TestReadByteChanged(t *testing.T) {
	for _, what := range []string{"zero", "one of each", "names of digits"} {
		written := snap.Write(rights()[what])
		for i := range written {
			for c := range 256 {
				one := string([]byte{byte(c)})
				if one != written[i:i+1] {
					checkNone(t, what+", a byte changed", written[:i]+one+written[i+1:])
				}
				checkNone(t, what+", a byte more", written[:i]+one+written[i:])
			}
			checkNone(t, what+", a byte left out", written[:i]+written[i+1:])
		}
	}
}

// TestReadBodyChanged changes bytes of bodies, and kinds, with sums that are those of what they are then.
func TestReadBodyChanged(t *testing.T) {
	states := 0
	for _, what := range []string{"zero", "one of each", "names of digits"} {
		for i, f := range raw(rights()[what]) {
			for c := byte(32); c <= 126; c++ {
				for at := range len(f.Body) + 1 {
					turned := []string{f.Body[:at] + string(c) + f.Body[at:]}
					if at < len(f.Body) {
						turned = append(turned, f.Body[:at]+string(c)+f.Body[at+1:], f.Body[:at]+f.Body[at+1:])
					}
					for _, body := range turned {
						l := raw(rights()[what])
						l[i].Body = body
						if check(t, what+", a body changed", l...) {
							states++
						}
					}
				}
			}
			for kind := byte('a'); kind <= 'z'; kind++ {
				l := raw(rights()[what])
				l[i].Kind = kind
				check(t, what+", a kind changed", l...)
			}
		}
	}
	if states < 100 {
		t.Errorf("few that are changed are states: %d", states)
	}
}

// counted is the frames, but that the last one tells how many there are ahead of it.
func counted(l []frame.Frame) []frame.Frame {
	l = slices.Clone(l)
	l[len(l)-1].Body = strconv.Itoa(len(l) - 1)
	return l
}

func TestReadFramesExchanged(t *testing.T) {
	for what, s := range rights() {
		for i := range raw(s) {
			for j := range i {
				l := raw(s)
				l[i], l[j] = l[j], l[i]
				checkNone(t, what+", two frames exchanged", packed(l...))
				if l[len(l)-1].Kind == 'z' {
					checkNone(t, what+", a frame moved", packed(counted(slices.Insert(slices.Delete(raw(s), i, i+1), j, raw(s)[i]))...))
				}
			}
		}
	}
}

func TestReadFramesLeftOut(t *testing.T) {
	for what, s := range rights() {
		k := len(raw(s)) - 1
		for i := range raw(s) {
			l := slices.Delete(raw(s), i, i+1)
			checkNone(t, what+", a frame left out", packed(l...))
			switch {
			case i == 0:
				checkNone(t, what+", without its m", packed(counted(l)...))
			case i == k:
				checkNone(t, what+", without its z", packed(l...))
			default:
				// What is left is all that another state has, but that its end says so, too.
				if !check(t, what+", of one thing less", counted(l)...) {
					t.Errorf("P15.2: Read of %s, of one thing less, %s: none", what, shown(l))
				}
			}
		}
	}
}

func TestReadFramesTwice(t *testing.T) {
	for what, s := range rights() {
		for i, f := range raw(s) {
			for at := range len(raw(s)) + 1 {
				l := slices.Insert(raw(s), at, f)
				checkNone(t, what+", a frame twice", packed(l...))
				checkNone(t, what+", a frame twice, counted", packed(counted(l)...))
				if i > 0 && f.Kind != 'z' {
					l[at].Kind = 'q'
					checkNone(t, what+", a frame of no kind", packed(counted(l)...))
				}
			}
		}
	}
}

func TestReadEnds(t *testing.T) {
	for what, s := range rights() {
		l := raw(s)
		k := len(l) - 1
		right := strconv.Itoa(k)
		for _, body := range []string{"", "0", "1", "2", "3", "18", "19", "20", strconv.Itoa(k - 1), strconv.Itoa(k + 1), "0" + right, right + " ", " " + right, right + " " + right, right + "0", "+" + right, "-" + right, "x", "z", "1099511627776", "1099511627777", "18446744073709551617"} {
			if body == right {
				continue
			}
			l[k].Body = body
			checkNone(t, what+", an end of "+body, packed(l...))
		}
	}
}

// TestReadFrames: of frames as they are shown, one of which may be no such frame, or which may make no state that is right.
func TestReadFrames(t *testing.T) {
	for l, want := range map[string]bool{
		"z: 0":                                                   false,
		"z: 1":                                                   false,
		"m: 0 0":                                                 false,
		"m: 0 0; m: 0 0; z: 2":                                   false,
		"m: 0 0; z: 1; z: 2":                                     false,
		"m: 0 0; z: 1; m: 0 0; z: 1":                             false,
		"z: 0; m: 0 0; z: 2":                                     false,
		"m: 0; z: 1":                                             false,
		"m: 0 0 0; z: 1":                                         false,
		"m: a 0; z: 1":                                           false,
		"m: 00 0; z: 1":                                          false,
		"m: 0 01; z: 1":                                          false,
		"m: -1 0; z: 1":                                          false,
		"m: 0  0; z: 1":                                          false,
		"m:  0 0; z: 1":                                          false,
		"m: 1099511627775 0; z: 1":                               true,
		"m: 1099511627776 0; z: 1":                               false,
		"m: 0 1099511627776; z: 1":                               false,
		"m: 0 1099511627777; z: 1":                               false,
		"m: 18446744073709551616 0; z: 1":                        false,
		"m: 9 0; t: a 9; z: 2":                                   true,
		"m: 9 0; t: a 10; z: 2":                                  false,
		"m: 9 0; t: a 09; z: 2":                                  false,
		"m: 9 0; t: a; z: 2":                                     false,
		"m: 9 0; t: 9; z: 2":                                     false,
		"m: 9 0; t: a a; z: 2":                                   false,
		"m: 9 0; t: a 9 9; z: 2":                                 false,
		"m: 9 0; t: A 9; z: 2":                                   false,
		"m: 9 0; t: ; z: 2":                                      false,
		"m: 9 0; t: a 1; t: b 1; z: 3":                           true,
		"m: 9 0; t: b 1; t: a 1; z: 3":                           false,
		"m: 9 0; t: a 1; t: a 1; z: 3":                           false,
		"t: a 1; m: 9 0; z: 2":                                   false,
		"m: 9 0; t: aaaaaaaaaaaa 9; z: 2":                        true,
		"m: 9 0; t: aaaaaaaaaaaaa 9; z: 2":                       false,
		"m: 9 0; s: a 0 9 1 1; z: 2":                             true,
		"m: 9 0; s: a 0 9 1; z: 2":                               false,
		"m: 9 0; s: a 0 9 1 1 1; z: 2":                           false,
		"m: 9 0; s: 0 9 1 1; z: 2":                               false,
		"m: 9 0; s: 0 0 9 1 1; z: 2":                             true,
		"m: 9 0; s: a x 9 1 1; z: 2":                             false,
		"m: 9 0; s: a 0 0x9 1 1; z: 2":                           false,
		"m: 9 0; s: a 0 9 01 1; z: 2":                            false,
		"m: 9 0; s: a 0 9 1 +1; z: 2":                            false,
		"m: 9 0; s: a 0 10 1 1; z: 2":                            false,
		"m: 9 0; s: a 9 9 1 1; z: 2":                             false,
		"m: 9 0; s: a 0 9 0 1; z: 2":                             false,
		"m: 9 0; s: a 0 9 1000 1; z: 2":                          false,
		"m: 9 0; s: a 0 9 1 5; z: 2":                             false,
		"m: 9 0; s: a 0 9 1 1; s: a 1 9 1 1; z: 3":               true,
		"m: 9 0; s: a 1 9 1 1; s: a 0 9 1 1; z: 3":               false,
		"m: 9 0; s: b 0 9 1 1; s: a 0 9 1 1; z: 3":               false,
		"m: 9 0; s: a 0 9 1 1; s: b 0 9 1 1; s: a 1 9 1 1; z: 4": false,
		"m: 9 0; s: a 0 9 1 1; t: a 9; z: 3":                     false,
		"m: 9 0; t: a 9; s: a 0 9 1 1; z: 3":                     true,
		"m: 9 0; w: a b 0 9; z: 2":                               true,
		"m: 9 0; w: a b 0 1099511627776; z: 2":                   true,
		"m: 9 0; w: a b 0 1099511627775; z: 2":                   false,
		"m: 9 0; w: a b 0 1099511627777; z: 2":                   false,
		"m: 9 0; w: a b 0 01099511627776; z: 2":                  false,
		"m: 9 0; w: a b 0; z: 2":                                 false,
		"m: 9 0; w: a 0 9; z: 2":                                 false,
		"m: 9 0; w: a b 0 9 9; z: 2":                             false,
		"m: 9 0; w: a b 0 a; z: 2":                               false,
		"m: 9 0; w: a b 0 9; w: a b 8 9; z: 3":                   false,
		"m: 9 0; w: a b 0 8; w: a b 8 9; z: 3":                   true,
		"m: 9 0; w: a b 0 8; w: a a 0 9; z: 3":                   false,
		"m: 9 0; w: a b 0 9; s: a 0 9 1 1; z: 3":                 false,
		"m: 9 0; s: a 0 9 1 1; w: a b 0 9; z: 3":                 true,
		"m: 9 0; n: 1 a 1 9; z: 2":                               true,
		"m: 9 0; n: 1 a 1 10; z: 2":                              false,
		"m: 9 0; n: 1 a 1; z: 2":                                 false,
		"m: 9 0; n: 1 a 1 9 9; z: 2":                             false,
		"m: 9 0; n: a 1 1 9; z: 2":                               false,
		"m: 9 0; n: 1 1 1 9; z: 2":                               true,
		"m: 9 0; n: 01 a 1 9; z: 2":                              false,
		"m: 9 0; n: 0 a 1 9; z: 2":                               false,
		"m: 9 0; n: 1000 a 1 9; z: 2":                            false,
		"m: 9 0; n: 1 a 5 9; z: 2":                               false,
		"m: 9 0; n: 1 a 1 9; n: 2 a 1 9; z: 3":                   true,
		"m: 9 0; n: 2 a 1 9; n: 1 a 1 9; z: 3":                   false,
		"m: 9 0; n: 1 a 1 9; n: 1 a 1 9; z: 3":                   false,
		"m: 9 0; n: 1 a 1 9; w: a b 0 9; z: 3":                   false,
		"m: 9 0; w: a b 0 9; n: 1 a 1 9; z: 3":                   true,
		"m: 9 0; s: a 0 9 1 1; n: 1 a 1 9; z: 3":                 true,
		"m: 9 0; s: a 0 9 1 1; n: 1 b 1 8; z: 3":                 false,
		"m: 9 0; q: a 9; z: 2":                                   false,
		"m: 9 0; o: 9 a 1 1; z: 2":                               false,
		"m: 9 0; e: 9 a; z: 2":                                   false,
		"m: 9 0; q: ; z: 2":                                      false,
		"m: 9 0; q: a 9; z: 1":                                   false,
	} {
		if got := check(t, "as they are shown", parsed(l)...); got != want {
			t.Errorf("P15.2: Read of %s: %v", l, got)
		}
	}
}

// opened is a text of so many open sessions.
func opened(count int) []frame.Frame {
	s := state.State{Now: 9}
	for i := range count {
		s.Open = append(s.Open, session(1+i, "a", 1, 9))
	}
	return raw(s)
}

func TestReadStatesThatAreNotRight(t *testing.T) {
	for what, s := range wrongs() {
		is := check(t, what, raw(s)...)
		// A user without stays has no frame, and stays of one user that stand behind one another are those of one user.
		if want := what == "users: no stays" || what == "users: twice"; is != want {
			t.Errorf("P15.2: Read of what would be written of a state that is not right, %s: %v", what, is)
		}
	}
	if !check(t, "sixteen are open", opened(16)...) || check(t, "seventeen are open", opened(17)...) {
		t.Error("P15.2: Read of open sessions: not MaxOpen of them")
	}
}

// TestReadOtherFrames reads frames that frame.Pack tells, but none of a state: of longest bodies.
func TestReadOtherFrames(t *testing.T) {
	body := strings.TrimSpace(strings.Repeat("0 ", 1000))
	for kind := byte('a'); kind <= 'z'; kind++ {
		for _, body := range []string{"", " ", body, strings.Repeat("9", 2000), strings.Repeat(" ", 2000), strings.Repeat("a", 2000)} {
			check(t, "of one that is long", parsed("m: 0 0; z: 1")[0], frame.Frame{Kind: kind, Body: body}, parsed("z: 2")[0])
		}
	}
}

func TestReadByChance(t *testing.T) {
	r := rand.New(rand.NewPCG(15, 2))
	states := 0
	for range 10000 {
		s := lived(r, r.IntN(60))
		l := raw(s)
		if !check(t, "as it is", l...) {
			t.Fatalf("P15.3: what was written is none: %s", text(s))
		}
		l = turned(r, l)
		if check(t, "turned", l...) && !slices.Equal(l, raw(s)) {
			states++
		}
		if len(l) > 0 {
			check(t, "turned again", turned(r, l)...)
		}
	}
	if states < 200 {
		t.Errorf("few that are turned are states: %d", states)
	}
}

// TestReadTornByChance has any bytes between, and behind, whole frames.
func TestReadTornByChance(t *testing.T) {
	r := rand.New(rand.NewPCG(15, 3))
	for range 5000 {
		written := snap.Write(lived(r, r.IntN(40)))
		i := r.IntN(len(written) + 1)
		j := i + r.IntN(len(written)-i+1)
		middle := make([]byte, r.IntN(5))
		for k := range middle {
			middle[k] = pick(r, []byte("\xfe\xfe09afmz \x00\xff"))
		}
		if torn := written[:i] + string(middle) + written[j:]; torn != written {
			checkNone(t, "torn: "+strconv.Quote(torn), torn)
		}
	}
}

// TestReadAgain goes on from what was read, as if it had never been written.
func TestReadAgain(t *testing.T) {
	r := rand.New(rand.NewPCG(15, 4))
	for range 500 {
		s := lived(r, r.IntN(80))
		again, _ := snap.Read(snap.Write(s))
		for range 20 {
			e := someEvent(r, s)
			next, err := state.Apply(s, e)
			after, no := state.Apply(again, e)
			if err != no || !state.Same(next, after) {
				t.Fatalf("P15.3: %+v behind %s, and behind what was read of it: %v, %v", e, text(s), err, no)
			}
			if err == 0 {
				s, again = next, after
			}
		}
	}
}
