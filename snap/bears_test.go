package snap_test

import (
	"math/rand/v2"
	"slices"
	"strings"
	"testing"

	"afterglow/frame"
	"afterglow/snap"
	"afterglow/state"
)

// bearers are frames, as they are shown, and whom each of them bears.
func bearers() map[string][]string {
	return map[string][]string{
		// Of each kind, and of each of its names.
		"t: ann 9":                   {"ann"},
		"s: ann 3 9 1 2":             {"ann"},
		"w: ann bob 3 9":             {"ann", "bob"},
		"w: bob ann 3 1099511627776": {"ann", "bob"},
		"w: ann ann 3 9":             {"ann"},
		"n: 7 ann 1 9":               {"ann"},
		// Names of digits beside numbers of the same.
		"t: 7 9":       {"7"},
		"t: 9 7":       {"9"},
		"s: 7 3 9 1 2": {"7"},
		"s: 9 3 7 1 2": {"9"},
		"w: 7 9 3 1":   {"7", "9"},
		"w: 1 2 7 9":   {"1", "2"},
		"n: 7 9 1 2":   {"9"},
		"n: 1 7 7 7":   {"7"},
		// Numbers are not looked at.
		"t: ann x":                            {"ann"},
		"t: ann 09":                           {"ann"},
		"t: ann bob":                          {"ann"},
		"t: ann -":                            {"ann"},
		"s: ann a b c d":                      {"ann"},
		"s: ann 9 3 0 00":                     {"ann"},
		"s: ann bob 3 1 2":                    {"ann"},
		"w: ann bob x y":                      {"ann", "bob"},
		"w: ann bob cat 9":                    {"ann", "bob"},
		"w: ann bob 9 cat":                    {"ann", "bob"},
		"w: ann bob 9 3":                      {"ann", "bob"},
		"n: x ann y z":                        {"ann"},
		"n: bob ann cat 7":                    {"ann"},
		"n: 1000 ann 5 -1":                    {"ann"},
		"t: ann " + strings.Repeat("9", 1900): {"ann"},
		// Of no thing.
		"m: 7 9":     nil,
		"m: ann 9":   nil,
		"m: ann bob": nil,
		"z: 7":       nil,
		"z: ann":     nil,
		"z: ann 9":   nil,
		// A word too few, or too many.
		"t: ann":           nil,
		"t: 9":             nil,
		"t: ann 9 9":       nil,
		"t: ann bob 3 9":   nil,
		"t: ann 3 9 1 2":   nil,
		"s: ann":           nil,
		"s: ann 3":         nil,
		"s: ann 3 9 1":     nil,
		"s: ann 3 9 1 2 4": nil,
		"s: 3 9 1 2":       nil,
		"w: ann":           nil,
		"w: ann bob":       nil,
		"w: ann bob 3":     nil,
		"w: ann bob 3 9 1": nil,
		"w: ann 3 9":       nil,
		"n: 7":             nil,
		"n: 7 ann":         nil,
		"n: 7 ann 1":       nil,
		"n: ann 1 9":       nil,
		"n: 7 ann 1 9 9":   nil,
		// No line.
		"t: ":             nil,
		"t:  ":            nil,
		"t: ann ":         nil,
		"t:  ann":         nil,
		"t:  ann 9":       nil,
		"t: ann 9 ":       nil,
		"t: ann  9":       nil,
		"t: ann\t9":       nil,
		"t: ann 9\n":      nil,
		"t: ann \x7f":     nil,
		"t: ann \xff":     nil,
		"s: ann 3 9 1 ":   nil,
		"s: ann 3  9 1 2": nil,
		"w: ann bob 3 ":   nil,
		"w: ann  3 9":     nil,
		"w:  ann bob 3 9": nil,
		"n:  ann 1 9":     nil,
		"n: 7 ann 1 \x00": nil,
		"n: 7 ann 1  9":   nil,
		"\x00: ann 9":     nil,
		// Of other kinds.
		"a: ann 9":       nil,
		"o: 9 ann 7 1":   nil,
		"e: 9 ann":       nil,
		"g: 9 ann bob":   nil,
		"q: ann 9":       nil,
		"u: ann bob 3 9": nil,
		"T: ann 9":       nil,
		"S: ann 3 9 1 2": nil,
		"\xfe: ann 9":    nil,
	}
}

// asked are names, and texts that are none.
func asked() []string {
	return []string{"ann", "bob", "cat", "7", "9", "1", "2", "3", "09", "x", "a", "an", "nn", "anna", "Ann", "ANN", "", " ", "ann ", " ann", "ann 9", "ann bob", "9 ann", "-", "\n", "\xff", longest + "z", strings.Repeat("9", 1900)}
}

func TestBears(t *testing.T) {
	for f, users := range bearers() {
		for _, u := range append(asked(), users...) {
			if got := snap.Bears(parsed(f)[0], u); got != slices.Contains(users, u) {
				t.Errorf("P15.2: Bears of %q, %q: %v", f, u, got)
			}
		}
	}
	for _, u := range asked() {
		if snap.Bears(frame.Frame{}, u) {
			t.Errorf("P15.2: Bears of a zero frame, %q", u)
		}
	}
}

// TestBearsOfEachKind has as many words as any kind may have, and more, of each kind that a byte may be.
func TestBearsOfEachKind(t *testing.T) {
	places := map[string][]int{"t2": {0}, "s5": {0}, "w4": {0, 1}, "n4": {1}}
	words := []string{"a", "b", "c", "d", "e", "f", "g", "h"}
	for kind := range 256 {
		for many := range len(words) + 1 {
			f := frame.Frame{Kind: byte(kind), Body: strings.Join(words[:many], " ")}
			for i, u := range words {
				want := slices.Contains(places[string(rune(kind))+string(rune('0'+many))], i)
				if got := snap.Bears(f, u); got != want {
					t.Errorf("P15.2: Bears of %q, %q: %v", shown([]frame.Frame{f}), u, got)
				}
			}
		}
	}
}

// things is of whom each thing of a state is, in any order.
func things(s state.State) [][]string {
	var l [][]string
	for _, x := range s.Open {
		l = append(l, []string{x.User})
	}
	for _, x := range s.Users {
		for range x.Stays {
			l = append(l, []string{x.Name})
		}
	}
	for _, x := range s.Subs {
		l = append(l, []string{x.W, x.U})
	}
	for _, x := range s.Tombs {
		l = append(l, []string{x.User})
	}
	return l
}

func checkBorne(t *testing.T, s state.State) {
	t.Helper()
	for _, u := range append(names(), "a", "b", "max", "x", "eve", "zoe", "0", "1", "2", "3", "4", "5", "20", "999", longest, "") {
		want, got := 0, 0
		for _, users := range things(s) {
			if slices.Contains(users, u) {
				want++
			}
		}
		for _, f := range snap.Frames(s) {
			if snap.Bears(f, u) {
				got++
			}
		}
		if got != want || (got > 0) != state.Has(s, u) {
			t.Fatalf("P15.3: %d frames bear %q of %s; should be %d", got, u, text(s), want)
		}
	}
}

func TestFramesBear(t *testing.T) {
	for _, s := range rights() {
		checkBorne(t, s)
	}
	r := rand.New(rand.NewPCG(15, 5))
	for range 1000 {
		checkBorne(t, lived(r, r.IntN(80)))
	}
}

// TestFramesBearErased: of a user that was erased there is a tomb, and nothing else.
func TestFramesBearErased(t *testing.T) {
	r := rand.New(rand.NewPCG(15, 6))
	for range 500 {
		s := lived(r, r.IntN(80))
		e := someEvent(r, s)
		e.Kind, e.User, e.Other, e.N, e.Status = 7, "ann", "", 0, 0
		s, err := state.Apply(s, e)
		if err != 0 {
			t.Fatal("an erasure is refused:", err)
		}
		var borne []frame.Frame
		for _, f := range snap.Frames(s) {
			if snap.Bears(f, "ann") {
				borne = append(borne, f)
			}
		}
		if len(borne) != 1 || borne[0].Kind != 't' {
			t.Fatalf("P15.3: frames that bear a user that was erased: %s", shown(borne))
		}
	}
}
