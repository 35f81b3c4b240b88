package tests

import (
	"fmt"
	"slices"
	"strings"
	"testing"

	"loop.example/g00621/impl"
)

// missingTexts have a program and what it wants; no: it is false.
var missingTexts = []struct{ prog, want string }{
	{"", "emp"},
	// Each kind of command.
	{"a := b", "emp"},
	{"a := nil", "emp"},
	{"a := a", "emp"},
	{"b := [a]", "a>_1"},
	{"a := [a]", "a>_1"},
	{"[a] := b", "a>_1"},
	{"[a] := nil", "a>_1"},
	{"[a] := a", "a>_1"},
	{"new a", "emp"},
	{"free a", "a>_1"},
	{"free e", "e>_1"},
	// A variable is as another one was ahead.
	{"a := b free a", "b>_1"},
	{"a := b c := [a]", "b>_1"},
	{"a := b [a] := c", "b>_1"},
	{"a := b b := c free a free b", "b>_1 c>_2"},
	{"a := b b := a free b", "b>_1"},
	{"a := b b := a a := c free b", "b>_1"},
	{"a := a free a", "a>_1"},
	{"a := b c := [a] d := [b] free d", "b>_1 _1>_2"},
	{"a := b [a] := c d := [b] free d", "b>_1 c>_2"},
	{"c := a a := b b := c free a free b", "b>_1 a>_2"},
	// What is loaded is wanted itself: from the first name on, each once, in order.
	{"b := [a] c := [b]", "a>_1 _1>_2"},
	{"a := [a] a := [a] a := [a]", "a>_1 _1>_2 _2>_3"},
	{"b := [a] c := [a]", "a>_1"},
	{"b := [a] c := [a] free b", "a>_1 _1>_2"},
	{"b := [a] c := [a] [b] := a d := [c] free d", "a>_1 _1>_2"},
	{"c := [b] d := [a] free c free d", "b>_1 a>_2 _1>_3 _2>_4"},
	{"c := [b] d := [a] free d free c", "b>_1 a>_2 _2>_3 _1>_4"},
	{"free e free a free c", "e>_1 a>_2 c>_3"},
	{"b := [a] a := [b] free a free b", "a>_1 _1>_2 _2>_3"},
	{"b := [a] free c free b", "a>_1 c>_2 _1>_3"},
	// What is new is a cell with Nil, and is not wanted.
	{"new a free a", "emp"},
	{"new a b := [a]", "emp"},
	{"new a [a] := b", "emp"},
	{"new a b := a free b", "emp"},
	{"new a b := [a] free b", "no"},
	{"new a b := [a] c := [b]", "no"},
	{"new a b := [a] [b] := a", "no"},
	{"new a new b [a] := b c := [a] d := [c]", "emp"},
	{"new a new b free a free b", "emp"},
	{"new a b := a new a free a free b", "emp"},
	{"new a new a free a free a", "no"},
	{"new a b := [c] new d e := [b]", "c>_1 _1>_2"},
	{"b := a new a free a free b", "a>_1"},
	{"new a [a] := a b := [a] free b free a", "no"},
	{"new a [a] := a b := [a] free b", "emp"},
	{strings.Repeat("new a ", 19) + "free b", "b>_1"},
	{strings.Repeat("new a ", 19) + "new b", "emp"},
	// What is stored there is loaded again.
	{"[a] := b c := [a] free c", "a>_1 b>_2"},
	{"[a] := b c := [a] d := [a] free c [d] := a", "no"},
	{"[a] := nil b := [a] free b", "no"},
	{"[a] := a c := [a] free c", "a>_1"},
	{"[a] := a b := [a] free b free a", "no"},
	{"[a] := b [a] := c d := [a] free d", "a>_1 c>_2"},
	{"[a] := b c := [d] free c", "a>_1 d>_2 _2>_3"},
	{"b := [a] [a] := c [b] := a d := [b] d := [d] free d", "a>_1 _1>_2 c>_3"},
	{"b := [a] [b] := a c := [b] free c free b", "a>_1 _1>_2"},
	{"[a] := b b := c d := [a] free d free b", "a>_1 b>_2 c>_3"},
	{"new b [a] := b c := [a] free c", "a>_1"},
	{"new b [a] := b c := [a] free c free b", "no"},
	{"new a [a] := b c := [a] free c", "b>_1"},
	// What went by CmFree, and another one at something else.
	{"free a free a", "no"},
	{"free a b := [a]", "no"},
	{"free a a := [a]", "no"},
	{"free a [a] := b", "no"},
	{"free a [a] := nil", "no"},
	{"b := a free a free b", "no"},
	{"b := a free b c := [a]", "no"},
	{"a := b free a free b", "no"},
	{"free a free b", "a>_1 b>_2"},
	{"free a b := a", "a>_1"},
	{"b := [a] free a free b", "a>_1 _1>_2"},
	{"b := [a] free b free a", "a>_1 _1>_2"},
	{"b := [a] free b c := [a] d := [c]", "no"},
	{"b := [a] free a c := [b] d := [a]", "no"},
	{"new a free a free a", "no"},
	{"new a free a b := [a]", "no"},
	{"new a b := a free b [a] := c", "no"},
	{"free a new a free a", "a>_1"},
	{"free a new a free a free a", "no"},
	{"free a a := b free a", "a>_1 b>_2"},
	{"free a new b [b] := a c := [b] free c", "no"},
	{"[a] := b free a free b", "a>_1 b>_2"},
	// What is at Nil.
	{"a := nil free a", "no"},
	{"a := nil b := [a]", "no"},
	{"a := nil a := [a]", "no"},
	{"a := nil [a] := b", "no"},
	{"a := nil b := a free b", "no"},
	{"b := nil free a", "a>_1"},
	{"a := nil a := b free a", "b>_1"},
	{"[a] := nil a := [a] a := [a]", "no"},
	// Where it is false, nothing is wanted, however much was.
	{"free b c := [d] free c free b", "no"},
}

func TestMissingKnownOnes(t *testing.T) {
	for _, c := range missingTexts {
		a, ok := checkMissing(t, mustProg(t, c.prog))
		got := "no"
		if ok {
			got = asnWord(a)
		}
		if got != c.want || !ok && !isZero(a) {
			t.Errorf("Missing(%q) = %q, %s, not %q", c.prog, got, describe(a), c.want)
		}
	}
}

// loadsOf goes on from a variable by so many loads.
func loadsOf(x string, n int) string {
	return strings.TrimSpace(strings.Repeat(fmt.Sprintf("%s := [%s] ", x, x), n))
}

// Just MaxSpace - 1 are wanted, and one more; some of them may have gone, and what is new does not count.
func TestMissingIsFull(t *testing.T) {
	for _, c := range []struct{ prog, want string }{
		{loadsOf("a", 4), "a>_1 _1>_2 _2>_3 _3>_4"},
		{loadsOf("a", 5), "a>_1 _1>_2 _2>_3 _3>_4 _4>_5"},
		{loadsOf("a", 6), "no"},
		{loadsOf("a", 20), "no"},
		{loadsOf("a", 5) + " free a", "no"},
		{loadsOf("a", 5) + " [a] := b", "no"},
		{loadsOf("a", 5) + " b := [b]", "no"},
		{loadsOf("a", 5) + " free b", "no"},
		{loadsOf("a", 4) + " free b", "a>_1 _1>_2 _2>_3 _3>_4 b>_5"},
		{loadsOf("a", 4) + " [e] := e", "a>_1 _1>_2 _2>_3 _3>_4 e>_5"},
		{"free a free b free c free d free e", "a>_1 b>_2 c>_3 d>_4 e>_5"},
		{"[e] := a [d] := a [c] := a [b] := a [a] := a", "e>_1 d>_2 c>_3 b>_4 a>_5"},
		{"a := [a] free b free c free d free e", "a>_1 b>_2 c>_3 d>_4 e>_5"},
		{"a := [a] free b free c free d free e free a", "no"},
		// All went that was wanted: it counts as it did.
		{"b := [a] free a a := [b] free b b := [a] free a a := [b] free b b := [a] free a", "a>_1 _1>_2 _2>_3 _3>_4 _4>_5"},
		{"b := [a] free a a := [b] free b b := [a] free a a := [b] free b b := [a] free a free b", "no"},
		// What is there already is there.
		{"b := [a] c := [b] d := [c] e := [d] e := [e] [d] := a free b free c d := [d]", "a>_1 _1>_2 _2>_3 _3>_4 _4>_5"},
		{"b := [a] c := [b] d := [c] e := [d] e := [e] free d", "a>_1 _1>_2 _2>_3 _3>_4 _4>_5"},
		{"b := [a] c := [b] d := [c] e := [d] e := [e] free d free d", "no"},
		{"b := [a] c := [b] d := [c] e := [d] e := [e] free e", "no"},
		{loadsOf("a", 5) + " new a free a new a b := [a] [a] := b", "a>_1 _1>_2 _2>_3 _3>_4 _4>_5"},
		{loadsOf("a", 5) + " a := b b := nil new c", "a>_1 _1>_2 _2>_3 _3>_4 _4>_5"},
		{"new b new b new b new b new b new b new b " + loadsOf("a", 5), "a>_1 _1>_2 _2>_3 _3>_4 _4>_5"},
		{"new b new b new b new b new b new b new b " + loadsOf("a", 6), "no"},
	} {
		a, ok := checkMissing(t, mustProg(t, c.prog))
		got := "no"
		if ok {
			got = asnWord(a)
		}
		if got != c.want || !ok && !isZero(a) {
			t.Errorf("Missing(%q) = %q, %s, not %q", c.prog, got, describe(a), c.want)
		}
		if len(a.Cells) > impl.MaxSpace-1 {
			t.Errorf("Missing(%q) = %s", c.prog, describe(a))
		}
	}
}

// A command that is not plain, at each place, and though nothing is in it.
func TestMissingWantsPlainCommands(t *testing.T) {
	base := mustProg(t, "b := [a] [b] := nil free a")
	for _, c := range append(mustProg(t, "if a = b { } { } while nil ! nil ( emp ) { }"), oneOfEach()[5:]...) {
		for i := range len(base) + 1 {
			l := slices.Insert(slices.Clone(base), i, c)
			if a, ok := checkMissing(t, l); ok || !isZero(a) {
				t.Errorf("Missing(%q) = %s, %v", progWord(l), describe(a), ok)
			}
			if pre, states, v := checkInfer(t, l); v != impl.VdGave || !isZero(pre) || len(states) != 0 {
				t.Errorf("Infer(%q) = %s, %q, %d", progWord(l), describe(pre), wordsOfAll(states), v)
			}
		}
		if a, ok := impl.Missing(cmds{c}); ok || !isZero(a) {
			t.Errorf("Missing(%q) = %s, %v", progWord(cmds{c}), describe(a), ok)
		}
	}
}

func TestMissingRefuses(t *testing.T) {
	for _, l := range slices.Concat(wrongProgs(), endlessProgs()) {
		if a, ok := impl.Missing(l); ok || !isZero(a) {
			t.Errorf("Missing of a wrong program = %s, %v", describe(a), ok)
		}
	}
	// Just MaxCmds, and one more.
	for n := range 5 {
		l := slices.Repeat(mustProg(t, "b := [a]"), impl.MaxCmds-2+n)
		if a, ok := checkMissing(t, l); ok != (n <= 2) || ok && asnWord(a) != "a>_1" || !ok && !isZero(a) {
			t.Errorf("Missing of %d = %s, %v", len(l), describe(a), ok)
		}
	}
	// Ahead of a wrong command, and behind it, is what would be wanted.
	for i, c := range wrongCmds() {
		l := slices.Insert(mustProg(t, "free a free b"), i%3, c)
		if a, ok := impl.Missing(l); ok || !isZero(a) {
			t.Errorf("Missing(%s) = %s, %v", describeProg(l), describe(a), ok)
		}
	}
}

// All programs of up to three commands about a and b, by another way.
func TestMissingOfSmallPrograms(t *testing.T) {
	var all cmds
	for _, w := range []string{"a := nil", "a := b", "b := a", "a := [a]", "a := [b]", "b := [a]", "[a] := nil", "[a] := a", "[a] := b", "[b] := a", "new a", "new b", "free a", "free b"} {
		all = append(all, mustCmd(t, w))
	}
	yes, no := 0, 0
	ask := func(l cmds) {
		if _, ok := checkMissing(t, l); ok {
			yes++
		} else {
			no++
		}
	}
	for _, x := range all {
		ask(cmds{x})
		for _, y := range all {
			ask(cmds{x, y})
			for _, z := range all {
				ask(cmds{x, y, z})
			}
		}
	}
	if yes < 1500 || no < 500 {
		t.Fatalf("%d are true, %d false", yes, no)
	}
}

func TestMissingByAnotherWay(t *testing.T) {
	var cells [impl.MaxSpace]int
	no := 0
	drawnWants(20000, func(d *draw, l cmds) {
		a, ok := checkMissing(t, l)
		if !ok {
			no++
			return
		}
		cells[len(a.Cells)]++
		if len(a.Eqs)+len(a.Nes)+len(a.Segs) > 0 || !impl.AsnOk(a) {
			t.Fatalf("Missing(%q) = %s", progWord(l), describe(a))
		}
		for i, p := range a.Cells {
			// Its name is the next one, and it is at a variable or at a name ahead of it.
			if p.B != impl.Vars+1+i || p.A < 1 || p.A >= p.B {
				t.Fatalf("Missing(%q) = %s", progWord(l), asnWord(a))
			}
		}
	})
	for _, l := range drawnProgs(1000) {
		checkMissing(t, l)
	}
	if slices.Min(cells[:]) < 300 || no < 300 {
		t.Fatalf("%v cells are wanted, %d are false", cells, no)
	}
}
