package tests

import (
	"fmt"
	"slices"
	"strings"
	"testing"

	"loop.example/g00621/impl"
)

// checkStep holds one command to what is told apart from the program.
func checkStep(t *testing.T, s impl.State, c impl.Cmd, pick int) (impl.State, int) {
	t.Helper()
	want, code := stepBy(s, c, pick)
	out, got := impl.Step(s, c, pick)
	if got != code || !sameState(out, want) {
		t.Fatalf("Step(%s, %q, %d) = %s, %d, not %s, %d", describeState(s), progWord(cmds{c}), pick, describeState(out), got, describeState(want), code)
	}
	if !impl.StateOk(out) {
		t.Fatalf("Step(%s, %q, %d) = %s", describeState(s), progWord(cmds{c}), pick, describeState(out))
	}
	return out, got
}

// checkRun holds a run to what is told apart from the program.
func checkRun(t *testing.T, s impl.State, l cmds, picks []int, fuel int) told {
	t.Helper()
	want := runBy(s, l, picks, fuel)
	out, code := impl.Run(s, l, picks, fuel)
	if code != want.code || !sameState(out, want.state) {
		t.Fatalf("Run(%s, %q, %v, %d) = %s, %d, not %s, %d", describeState(s), progWord(l), picks, fuel, describeState(out), code, describeState(want.state), want.code)
	}
	return want
}

var stepTexts = []struct {
	state, cmd string
	pick, code int
	want       string
}{
	{"a=1 b=2", "a := b", 0, impl.RsDone, "a=2 b=2"},
	{"a=1 b=2", "a := nil", 0, impl.RsDone, "b=2"},
	{"a=1 b=2", "a := a", 0, impl.RsDone, "a=1 b=2"},
	{"a=1 1>3", "b := a", 0, impl.RsDone, "a=1 b=1 1>3"},
	{"a=1 1>3", "b := [a]", 0, impl.RsDone, "a=1 b=3 1>3"},
	{"a=1 1>3", "a := [a]", 0, impl.RsDone, "a=3 1>3"},
	{"a=1 b=6 1>0", "b := [a]", 0, impl.RsDone, "a=1 1>0"},
	{"a=1 1>1", "e := [a]", 0, impl.RsDone, "a=1 e=1 1>1"},
	{"a=1 b=4 1>3", "[a] := b", 0, impl.RsDone, "a=1 b=4 1>4"},
	{"a=1 1>3", "[a] := a", 0, impl.RsDone, "a=1 1>1"},
	{"a=1 1>3", "[a] := nil", 0, impl.RsDone, "a=1 1>0"},
	{"a=1 b=1 1>3 2>4", "[a] := e", 0, impl.RsDone, "a=1 b=1 1>0 2>4"},
	{"a=1 1>3 2>1", "free a", 0, impl.RsDone, "a=1 2>1"},
	{"a=1 b=1 1>1", "free b", 0, impl.RsDone, "a=1 b=1"},
	// An address that is not there, and Nil.
	{"a=2 1>3", "b := [a]", 0, impl.RsFault, "a=2 1>3"},
	{"b=5 1>3", "b := [a]", 0, impl.RsFault, "b=5 1>3"},
	{"a=1 b=2 1>3", "a := [b]", 0, impl.RsFault, "a=1 b=2 1>3"},
	{"a=2 b=1 1>3", "[a] := b", 0, impl.RsFault, "a=2 b=1 1>3"},
	{"b=1 1>3", "[a] := b", 0, impl.RsFault, "b=1 1>3"},
	{"b=1 1>3", "[a] := nil", 0, impl.RsFault, "b=1 1>3"},
	{"a=2 1>3", "free a", 0, impl.RsFault, "a=2 1>3"},
	{"b=1 1>3", "free a", 0, impl.RsFault, "b=1 1>3"},
	{"", "free a", 0, impl.RsFault, ""},
	// CmNew from the pick on, and round behind the last.
	{"", "new a", 0, impl.RsDone, "a=1 1>0"},
	{"", "new a", 1, impl.RsDone, "a=2 2>0"},
	{"", "new a", 5, impl.RsDone, "a=6 6>0"},
	{"", "new a", 6, impl.RsDone, "a=1 1>0"},
	{"", "new a", 7, impl.RsDone, "a=2 2>0"},
	{"", "new a", 1000, impl.RsDone, "a=5 5>0"},
	{"", "new a", 999, impl.RsDone, "a=4 4>0"},
	{"6>2", "new a", 5, impl.RsDone, "a=1 1>0 6>2"},
	{"1>1 6>2", "new a", 5, impl.RsDone, "a=2 1>1 2>0 6>2"},
	{"1>1 2>1 3>1 4>1 6>1", "new a", 5, impl.RsDone, "a=5 1>1 2>1 3>1 4>1 5>0 6>1"},
	{"2>1 3>1 4>1 5>1 6>1", "new a", 1, impl.RsDone, "a=1 1>0 2>1 3>1 4>1 5>1 6>1"},
	{"a=3 b=3", "new a", 2, impl.RsDone, "a=3 b=3 3>0"}, // what was not there may be known already
	{"a=3 e=3 3>4", "new e", 2, impl.RsDone, "a=3 e=4 3>4 4>0"},
	{"a=3 1>1 2>1 3>1 4>1 5>1 6>1", "new a", 4, impl.RsRoom, "a=3 1>1 2>1 3>1 4>1 5>1 6>1"},
	{"1>0 2>0 3>0 4>0 5>0 6>0", "new b", 0, impl.RsRoom, "1>0 2>0 3>0 4>0 5>0 6>0"},
	{"1>0 2>0 3>0 4>0 5>0 6>0", "new b", 1000, impl.RsRoom, "1>0 2>0 3>0 4>0 5>0 6>0"},
}

func TestStepKnownOnes(t *testing.T) {
	for _, c := range stepTexts {
		out, code := checkStep(t, mustState(t, c.state), mustCmd(t, c.cmd), c.pick)
		if code != c.code || !sameState(out, mustState(t, c.want)) {
			t.Errorf("Step(%q, %q, %d) = %s, %d", c.state, c.cmd, c.pick, describeState(out), code)
		}
	}
}

// Each heap by what is there, with each pick modulo Addrs.
func TestStepNewWithEachPick(t *testing.T) {
	for there := range 1 << impl.Addrs {
		s := mustState(t, "a=1 b=2 c=3 d=4 e=5")
		for x := range impl.Addrs {
			if there>>x&1 == 1 {
				s.Heap[x+1] = 6 - x
			}
		}
		for _, pick := range []int{0, 1, 2, 3, 4, 5, 6, 7, 11, 12, 17, 500, 995, 996, 997, 998, 999, 1000} {
			out, code := checkStep(t, s, impl.Cmd{Kind: impl.CmNew, X: 1 + pick%5}, pick)
			if (code == impl.RsRoom) != (there == 1<<impl.Addrs-1) {
				t.Fatalf("Step(%s, new, %d) = %d", describeState(s), pick, code)
			}
			if code == impl.RsRoom {
				continue
			}
			x := out.Terms[1+pick%5]
			if s.Heap[x] != gone || out.Heap[x] != 0 || len(domainBy(out.Heap)) != len(domainBy(s.Heap))+1 {
				t.Fatalf("Step(%s, new, %d) = %s", describeState(s), pick, describeState(out))
			}
			if first := 1 + pick%6; s.Heap[first] == gone && x != first {
				t.Fatalf("Step(%s, new, %d) takes %d", describeState(s), pick, x)
			}
		}
	}
}

// All states of few addresses with all commands of two variables.
func TestStepOfSmallStates(t *testing.T) {
	var all cmds
	for x := 1; x <= 2; x++ {
		for y := range 3 {
			for kind := range 5 {
				if c := (impl.Cmd{Kind: kind, X: x, Y: y}); progOkBy(cmds{c}) {
					all = append(all, c)
				}
			}
		}
	}
	smallStates(func(s impl.State) {
		for _, c := range all {
			checkStep(t, s, c, 1)
		}
	})
}

func TestStepRefuses(t *testing.T) {
	good := mustState(t, "a=1 b=2 1>2 2>0")
	refuses := func(s impl.State, c impl.Cmd, pick int) {
		t.Helper()
		if out, code := impl.Step(s, c, pick); code != -1 || !isZeroState(out) {
			t.Errorf("Step(%s, %+v, %d) = %s, %d", describeState(s), c, pick, describeState(out), code)
		}
	}
	for _, c := range oneOfEach() {
		if c.Kind >= impl.CmIf {
			refuses(good, c, 0)
			c.A, c.B, c.Inv = nil, nil, impl.Asn{}
			refuses(good, c, 0)
			continue
		}
		for _, pick := range []int{0, 1, 999, 1000} {
			checkStep(t, good, c, pick)
		}
		for _, pick := range wrongPicks {
			refuses(good, c, pick) // whatever it is, and CmNew is one of them
		}
		for _, s := range wrongStates() {
			refuses(s, c, 0)
		}
	}
	refuses(impl.State{}, impl.Cmd{}, -1)
}

// Promise 6: a plain command changes what it names alone; who goes where nothing is fails, and all is as it was.
func TestStepChangesWhatItNames(t *testing.T) {
	d := draw(11)
	var codes [4]int
	var changed [5]int
	for _, s := range drawnStates(3000) {
		for kind := range 5 {
			c := d.plainCmd(kind)
			pick := d.below(1001)
			out, code := checkStep(t, s, c, pick)
			codes[code]++
			terms, heap := slices.Clone(s.Terms), slices.Clone(s.Heap)
			goes := map[int]int{impl.CmLoad: c.Y, impl.CmStore: c.X, impl.CmFree: c.X}
			at, asks := goes[kind]
			if asks && (code == impl.RsFault) != (s.Heap[s.Terms[at]] == gone) || !asks && code == impl.RsFault {
				t.Fatalf("Step(%s, %q) = %d", describeState(s), progWord(cmds{c}), code)
			}
			if (code == impl.RsRoom) != (kind == impl.CmNew && len(domainBy(s.Heap)) == impl.Addrs) {
				t.Fatalf("Step(%s, %q) = %d", describeState(s), progWord(cmds{c}), code)
			}
			if code == impl.RsDone {
				if !sameState(out, s) {
					changed[kind]++
				}
				// What it names is as it came out: all else has to be as it was.
				if kind == impl.CmSet || kind == impl.CmLoad || kind == impl.CmNew {
					terms[c.X] = out.Terms[c.X]
				}
				switch kind {
				case impl.CmNew:
					heap[out.Terms[c.X]] = 0
				case impl.CmStore:
					heap[s.Terms[c.X]] = s.Terms[c.Y]
				case impl.CmFree:
					heap[s.Terms[c.X]] = gone
				}
			}
			if !slices.Equal(out.Terms, terms) || !slices.Equal(out.Heap, heap) {
				t.Fatalf("Step(%s, %q, %d) = %s", describeState(s), progWord(cmds{c}), pick, describeState(out))
			}
		}
	}
	if min(codes[impl.RsDone], codes[impl.RsFault], codes[impl.RsRoom]) < 200 || slices.Min(changed[:]) < 200 {
		t.Fatalf("codes %v, changed %v", codes, changed)
	}
}

var runTexts = []struct {
	state, prog string
	picks       []int
	fuel, code  int
	want        string
}{
	{"a=1 1>2", "", nil, 0, impl.RsDone, "a=1 1>2"},
	{"", "new a", nil, 0, impl.RsFuel, ""},
	{"", "new a", nil, 1, impl.RsDone, "a=1 1>0"},
	{"", "new a new b", nil, 1, impl.RsFuel, "a=1 1>0"},
	{"", "new a new b", nil, 2, impl.RsDone, "a=1 b=2 1>0 2>0"},
	// A branch: it takes one, and what is in it one each.
	{"a=1", "if a = nil { b := a } { c := a }", nil, 1, impl.RsFuel, "a=1"},
	{"a=1", "if a = nil { b := a } { c := a }", nil, 2, impl.RsDone, "a=1 c=1"},
	{"a=1", "if a ! nil { b := a } { c := a }", nil, 2, impl.RsDone, "a=1 b=1"},
	{"a=1 b=1", "if a = b { c := a } { d := a }", nil, 2, impl.RsDone, "a=1 b=1 c=1"},
	{"a=1 b=1", "if a ! b { c := a } { d := a }", nil, 2, impl.RsDone, "a=1 b=1 d=1"},
	{"a=1", "if a = nil { free e } { }", nil, 1, impl.RsDone, "a=1"},
	{"a=1", "if a ! nil { } { free e }", nil, 1, impl.RsDone, "a=1"},
	{"a=1", "if a ! nil { } { free e }", nil, 0, impl.RsFuel, "a=1"},
	{"a=1", "if a = nil { } { } b := a", nil, 1, impl.RsFuel, "a=1"},
	{"a=1", "if a = nil { } { } b := a", nil, 2, impl.RsDone, "a=1 b=1"},
	// A loop: it takes one, each turn one more ahead of it, and what is in it one each.
	{"", "while a ! nil ( emp ) { free e }", nil, 0, impl.RsFuel, ""},
	{"", "while a ! nil ( emp ) { free e }", nil, 1, impl.RsDone, ""},
	{"a=1", "while a ! nil ( emp ) { a := nil }", nil, 1, impl.RsFuel, "a=1"},
	{"a=1", "while a ! nil ( emp ) { a := nil }", nil, 2, impl.RsFuel, "a=1"},
	{"a=1", "while a ! nil ( emp ) { a := nil }", nil, 3, impl.RsDone, ""},
	{"a=1", "while a ! nil ( emp ) { a := nil } b := nil", nil, 3, impl.RsFuel, ""},
	{"a=1", "while a ! nil ( emp ) { a := nil } b := nil", nil, 4, impl.RsDone, ""},
	{"a=1 1>2 2>3 3>0", "while a ! nil ( emp ) { a := [a] }", nil, 7, impl.RsDone, "1>2 2>3 3>0"},
	{"a=1 1>2 2>3 3>0", "while a ! nil ( emp ) { a := [a] }", nil, 6, impl.RsFuel, "a=3 1>2 2>3 3>0"},
	{"a=1 1>2 2>3 3>0", "while a ! nil ( emp ) { a := [a] }", nil, 5, impl.RsFuel, "a=3 1>2 2>3 3>0"},
	{"a=1 1>2 2>3 3>0", "while a ! nil ( emp ) { a := [a] }", nil, 4, impl.RsFuel, "a=2 1>2 2>3 3>0"},
	{"", "while a = nil ( emp ) { }", nil, 0, impl.RsFuel, ""},
	{"", "while a = nil ( emp ) { }", nil, 1000, impl.RsFuel, ""}, // without an end
	{"", "while nil = nil ( emp ) { a := b b := nil }", nil, 1000, impl.RsFuel, ""},
	{"a=1", "while a ! nil ( a!a ) { a := nil }", nil, 3, impl.RsDone, ""}, // the invariant is not asked
	{"a=1 b=1", "while a = b ( emp ) { a := nil }", nil, 3, impl.RsDone, "b=1"},
	{"a=1 1>2 2>0", "while a ! nil ( a..nil ) { b := [a] free a a := b }", nil, 9, impl.RsDone, ""},
	{"a=1 1>2 2>0", "while a ! nil ( a..nil ) { b := [a] free a a := b }", nil, 8, impl.RsFuel, "a=2"},
	{"a=1 1>2 2>0", "while a ! nil ( a..nil ) { b := [a] free a a := b }", nil, 7, impl.RsFuel, "a=2 2>0"},
	{"a=1 b=1 c=1", "while a ! nil ( emp ) { a := b b := c while c ! nil ( emp ) { c := nil } }", nil, 100, impl.RsDone, ""},
	// A fault, or no room, ends all, wherever it is.
	{"a=1", "b := a free a c := a", nil, 100, impl.RsFault, "a=1 b=1"},
	{"a=1", "b := a if a = b { free a c := a } { } d := a", nil, 100, impl.RsFault, "a=1 b=1"},
	{"a=1", "b := a if a ! b { } { c := [a] c := a } d := a", nil, 100, impl.RsFault, "a=1 b=1"},
	{"a=1 1>2", "while a ! nil ( emp ) { a := [a] } b := a", nil, 100, impl.RsFault, "a=2 1>2"},
	{"a=1 1>2", "while a ! nil ( emp ) { if a = a { while a = a ( emp ) { a := [a] } } { } } b := a", nil, 100, impl.RsFault, "a=2 1>2"},
	{"", "while nil = nil ( emp ) { new a } b := a", nil, 100, impl.RsRoom, "a=6 1>0 2>0 3>0 4>0 5>0 6>0"},
	{"", "while nil = nil ( emp ) { if nil = nil { new a } { } } b := a", []int{3}, 100, impl.RsRoom, "a=3 1>0 2>0 3>0 4>0 5>0 6>0"},
	{"a=1", "free a new b", nil, 1, impl.RsFault, "a=1"}, // the fault is ahead of the fuel
	{"a=1", "free a", nil, 0, impl.RsFuel, "a=1"},        // and behind it
	// Picks in order, and from the first one again.
	{"", "new a new b new c", []int{5, 2, 0}, 9, impl.RsDone, "a=6 b=3 c=1 1>0 3>0 6>0"},
	{"", "new a new b new c", []int{3}, 9, impl.RsDone, "a=4 b=5 c=6 4>0 5>0 6>0"},
	{"", "new a new b new c new d", []int{5, 2}, 9, impl.RsDone, "a=6 b=3 c=1 d=4 1>0 3>0 4>0 6>0"},
	{"", "new a new b new c new d", []int{1000, 1000}, 9, impl.RsDone, "a=5 b=6 c=1 d=2 1>0 2>0 5>0 6>0"},
	{"", "new a b := a new c", []int{5, 2}, 9, impl.RsDone, "a=6 b=6 c=3 3>0 6>0"}, // others take none
	{"", "new a new b", nil, 9, impl.RsDone, "a=1 b=2 1>0 2>0"},
	{"", "new a new b", []int{4, 4, 4, 4}, 9, impl.RsDone, "a=5 b=6 5>0 6>0"},
	{"", "new a free a new a free a new a", []int{1, 3, 5}, 9, impl.RsDone, "a=6 6>0"},
	{"", "if a = nil { new a } { } while b = nil ( emp ) { new b } new c", []int{4, 2, 0}, 9, impl.RsDone, "a=5 b=3 c=1 1>0 3>0 5>0"},
}

func TestRunKnownOnes(t *testing.T) {
	for _, c := range runTexts {
		got := checkRun(t, mustState(t, c.state), mustProg(t, c.prog), c.picks, c.fuel)
		if got.code != c.code || !sameState(got.state, mustState(t, c.want)) {
			t.Errorf("Run(%q, %q, %v, %d) = %s, %d", c.state, c.prog, c.picks, c.fuel, describeState(got.state), got.code)
		}
	}
}

// A loop that goes over a list takes 1 of the fuel, and for each turn 1 and what is in it.
func TestFuelOfTurns(t *testing.T) {
	for n := range impl.Addrs + 1 {
		for m := range 6 {
			s := mustState(t, "")
			for x := 1; x <= n; x++ {
				s.Heap[x] = (x + 1) % (n + 1)
				s.Terms[1] = 1
			}
			l := mustProg(t, "while a ! nil ( a..nil ) { a := [a]"+strings.Repeat(" b := b", m)+" }")
			all := 1 + n*(2+m)
			for fuel := range all + 3 {
				got := checkRun(t, s, l, nil, fuel)
				if (got.code == impl.RsDone) != (fuel >= all) || got.code != impl.RsDone && got.code != impl.RsFuel {
					t.Errorf("over %d with %d more, fuel %d: %d", n, m, fuel, got.code)
				}
			}
		}
	}
}

func TestRunRefuses(t *testing.T) {
	good, l := mustState(t, "a=1 b=2 1>2 2>0"), mustProg(t, "new a free a")
	refuses := func(what string, s impl.State, l cmds, picks []int, fuel int) {
		t.Helper()
		if out, code := impl.Run(s, l, picks, fuel); code != -1 || !isZeroState(out) {
			t.Errorf("%s: Run = %s, %d", what, describeState(out), code)
		}
	}
	for _, s := range wrongStates() {
		refuses(describeState(s), s, l, nil, 10)
		refuses(describeState(s), s, nil, nil, 0)
	}
	for _, fuel := range wrongPicks {
		refuses(fmt.Sprint("fuel ", fuel), good, l, nil, fuel)
		refuses(fmt.Sprint("fuel ", fuel), good, nil, nil, fuel)
	}
	for _, fuel := range []int{0, 1, 999, 1000} {
		checkRun(t, good, l, nil, fuel)
		checkRun(t, good, nil, nil, fuel)
	}
	for _, pick := range wrongPicks {
		for _, n := range []int{1, 2, 100} {
			for _, at := range []int{0, n / 2, n - 1} {
				picks := make([]int, n)
				picks[at] = pick
				refuses(fmt.Sprint("pick ", pick), good, l, picks, 10)
				refuses(fmt.Sprint("pick ", pick), good, nil, picks, 10) // be none of them taken
			}
		}
	}
	for _, n := range []int{0, 1, 99, 100, 101, 102, 5000} {
		picks := slices.Repeat([]int{1000}, n)
		if n > 100 {
			refuses(fmt.Sprint(n, " picks"), good, l, picks, 10)
			refuses(fmt.Sprint(n, " picks"), good, nil, picks, 0)
			continue
		}
		checkRun(t, good, l, picks, 10)
	}
	refuses("all wrong", impl.State{}, cmds{{}}, []int{-1}, -1)
}

// Just 100 picks are taken in order, and then from the first one again.
func TestRunTakesPicksInOrder(t *testing.T) {
	picks := make([]int, 100)
	for i := range picks {
		picks[i] = (i*i + i/7) % 6
	}
	l := mustProg(t, "while nil = nil ( emp ) { new a free a }")
	for turn := 1; turn < 300; turn++ {
		out, code := impl.Run(mustState(t, ""), l, picks, 1+3*turn)
		if want := 1 + picks[(turn-1)%100]; code != impl.RsFuel || out.Terms[1] != want || len(domainBy(out.Heap)) != 0 {
			t.Fatalf("the %d. is %d, not %d", turn, out.Terms[1], want)
		}
		out, code = impl.Run(mustState(t, ""), l, nil, 1+3*turn)
		if code != impl.RsFuel || out.Terms[1] != 1 {
			t.Fatalf("the %d. is %d without picks", turn, out.Terms[1])
		}
	}
}

// One command alone is done as by Step.
func TestRunOfOneIsStep(t *testing.T) {
	d := draw(12)
	for _, s := range drawnStates(1000) {
		for kind := range 5 {
			c, pick := d.plainCmd(kind), d.below(1001)
			want, code := impl.Step(s, c, pick)
			out, got := impl.Run(s, cmds{c}, []int{pick}, 1)
			if got != code || !sameState(out, want) {
				t.Fatalf("Run(%s, %q) = %s, %d, not %s, %d", describeState(s), progWord(cmds{c}), describeState(out), got, describeState(want), code)
			}
			if out, got = impl.Run(s, cmds{c}, []int{pick}, 0); got != impl.RsFuel || !sameState(out, s) {
				t.Fatalf("Run(%s, %q) without fuel = %s, %d", describeState(s), progWord(cmds{c}), describeState(out), got)
			}
		}
	}
}

func TestRunOfDrawnPrograms(t *testing.T) {
	var codes [4]int
	var news, turns int
	drawnRuns(20000, func(d *draw, s impl.State, l cmds) {
		picks := d.picks()
		got := checkRun(t, s, l, picks, d.below(60))
		codes[got.code]++
		if got.news > len(picks) {
			news++
		}
		if got.code == impl.RsDone && got.turns > 1 {
			turns++
		}
		checkRun(t, s, l, picks, d.below(1001))
		checkRun(t, s, l, nil, 1000)
		checkRun(t, s, l, picks, 0)
	})
	if slices.Min(codes[:]) < 100 || min(news, turns) < 100 {
		t.Fatalf("codes %v, %d with picks again, %d with turns", codes, news, turns)
	}
}
