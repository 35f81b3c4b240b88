package tests

import (
	"slices"
	"testing"

	"loop.example/g00621/impl"
)

// dispose lets all of a list at a go.
const dispose = "while a ! nil ( a..nil ) { b := [a] free a a := b }"

// inferTexts have a program, what it wants, and what comes of it; gave: it gives up.
var inferTexts = []struct{ prog, want, come string }{
	{"", "emp", "emp"},
	{"a := b", "emp", "a=b"},
	{"a := nil", "emp", "a=nil"},
	{"b := [a]", "a>_1", "a>b"},
	{"a := [a]", "a>_1", "_2>a"},
	{"[a] := b", "a>_1", "a>b"},
	{"[a] := nil", "a>_1", "a>nil"},
	{"new a", "emp", "a>nil"},
	{"free a", "a>_1", "emp"},
	{"new a free a", "emp", "emp"},
	{"b := [a] [b] := nil free a", "a>_1 _1>_2", "b>nil"},
	{"b := [a] free a a := b", "a>_1", "a=b"},
	{"free a free b", "a>_1 b>_2", "emp"},
	{"c := [a] [a] := b b := a a := c", "a>_1", "a=c b>_1"},
	{"new b [b] := a a := b free a", "emp", "a=b"},
	{"[a] := b c := [a] free c", "a>_1 b>_2", "c=b a>b"},
	{loads5, "a>_1 _1>_2 _2>_3 _3>_4 _4>_5", "_6>_1 _1>_2 _2>_3 _3>_4 _4>a"},
	{loads5 + " new b", "a>_1 _1>_2 _2>_3 _3>_4 _4>_5", "_6>_1 _1>_2 _2>_3 _3>_4 _4>a b>nil"},
	// Missing is false.
	{"free a free a", "gave", ""},
	{"a := nil free a", "gave", ""},
	{"new a b := [a] free b", "gave", ""},
	{loads5 + " a := [a]", "gave", ""},
	{"if a = b { } { }", "gave", ""},
	{"while nil ! nil ( emp ) { }", "gave", ""},
	{"free a " + dispose, "gave", ""},
	// What is wanted is not too much, but what comes of it is: a piece too many, or no fresh name.
	{loads5 + " new b new c", "gave", ""},
	{"new b new b new b new b new b new b", "emp", "_1>nil _2>nil _3>nil _4>nil _5>nil b>nil"},
	{"new b new b new b new b new b new b new b", "gave", ""},
	{"new b new b new b new b new b new b new b free b", "gave", ""},
	{"free a new b new b new b new b new b new b", "a>_1", "_1>nil _2>nil _3>nil _4>nil _5>nil b>nil"},
	{"new b new b new b new b new b new b free a", "gave", ""},
	{allNamed, "e>_1 a>_2 b>_3 c>_4 d>_5", "a=nil b=nil c=nil d=nil _6>_1 _5>_2 _7>_3 _8>_4 _9>_10 e>nil"},
	{allNamed + " [e] := a free e", "e>_1 a>_2 b>_3 c>_4 d>_5", "a=nil b=nil c=nil d=nil _6>_1 _5>_2 _7>_3 _8>_4 _9>_10"},
	{allNamed + " e := nil", "gave", ""},
	{allNamed + " a := a", "gave", ""},
	{allNamed + " free e a := b", "gave", ""},
}

const loads5 = "a := [a] a := [a] a := [a] a := [a] a := [a]"

// allNamed wants five cells, of which no variable tells in the end: all names stand in them.
const allNamed = "e := [e] e := [a] e := [b] e := [c] e := [d] a := nil b := nil c := nil d := nil new e"

func TestInferKnownOnes(t *testing.T) {
	for _, c := range inferTexts {
		pre, states, v := checkInfer(t, mustProg(t, c.prog))
		if c.want == "gave" {
			if v != impl.VdGave || !isZero(pre) || len(states) != 0 {
				t.Errorf("Infer(%q) = %s, %q, %d", c.prog, describe(pre), wordsOfAll(states), v)
			}
			continue
		}
		if v != impl.VdHolds || asnWord(pre) != c.want || wordsOfAll(states) != c.come {
			t.Errorf("Infer(%q) = %s, %q, %d, not %s, %q", c.prog, describe(pre), wordsOfAll(states), v, c.want, c.come)
		}
	}
}

func TestInferRefuses(t *testing.T) {
	for _, l := range slices.Concat(wrongProgs(), endlessProgs()) {
		if pre, states, v := impl.Infer(l); v != -1 || !isZero(pre) || len(states) != 0 {
			t.Errorf("Infer of a wrong program = %s, %q, %d", describe(pre), wordsOfAll(states), v)
		}
	}
	skip := mustCmd(t, "b := a")
	for _, c := range []struct {
		l    cmds
		want int
	}{
		{slices.Repeat(cmds{skip}, 20), impl.VdHolds},
		{slices.Repeat(cmds{skip}, 21), -1},
		{append(slices.Repeat(cmds{skip}, 20), freeA), -1},
		{nested(3, cmds{skip}, wraps[0]), impl.VdGave},
		{nested(4, cmds{skip}, wraps[0]), -1}, // ahead of what is not plain
		{cmds{freeA, freeA, {Kind: 7}}, -1},
	} {
		if _, _, v := checkInfer(t, c.l); v != c.want {
			t.Errorf("Infer(%s) = %d, not %d", describeProg(c.l), v, c.want)
		}
	}
}

// What is inferred is what is Missing, and what comes of it is Exec's; of verdicts there is none but these two.
func TestInferIsMissingAndExec(t *testing.T) {
	var holds, missing, gave int
	drawnWants(12000, func(d *draw, l cmds) {
		pre, states, v := impl.Infer(l)
		if d.below(3) == 0 {
			checkInfer(t, l)
		}
		want, ok := impl.Missing(l)
		if !ok {
			missing++
			if v != impl.VdGave {
				t.Fatalf("Infer(%q) = %d", progWord(l), v)
			}
			return
		}
		come, w := impl.Exec(asns{want}, l)
		switch {
		case v != w || !sameAsns(states, come):
			t.Fatalf("Infer(%q) = %q, %d, not %q, %d", progWord(l), wordsOfAll(states), v, wordsOfAll(come), w)
		case v == impl.VdHolds && sameAsn(pre, want) && len(states) == 1:
			holds++
		case v == impl.VdGave && isZero(pre) && len(states) == 0:
			gave++
		default:
			t.Fatalf("Infer(%q) = %s, %q, %d", progWord(l), describe(pre), wordsOfAll(states), v)
		}
	})
	for _, l := range drawnProgs(1000) {
		checkInfer(t, l)
	}
	if min(holds, missing, gave) < 200 {
		t.Fatalf("%d hold, of %d nothing is told to be missing, %d give up", holds, missing, gave)
	}
}

// needlessTexts have what is ahead, a program, and the place of the first cell that is needless; its words may be in any order.
var needlessTexts = []struct {
	pre, prog string
	want      int
}{
	{"emp", "", -1},
	{"a>nil", "", 0},
	{"a>nil b>nil", "", 0},
	{"a..nil", "", -1},
	{"a=b a!c a..nil", "", -1},
	// The first of several; none.
	{"a>b b>c", "b := [a] [b] := nil free a", -1},
	{"a>b b>c c>nil", "b := [a] [b] := nil free a", 2},
	{"c>nil a>b b>c", "b := [a] [b] := nil free a", 0},
	{"a>b c>nil b>c", "b := [a] [b] := nil free a", 1},
	{"a>nil b>nil", "free b", 0},
	{"b>nil a>nil", "free b", 1},
	{"b>nil a>nil c>nil d>nil", "free b", 1},
	{"a>nil b>nil c>nil d>nil", "free b", 0},
	{"b>nil c>nil a>nil d>nil e>nil", "free b free a free c", 3},
	{"a>nil b>nil c>nil d>nil e>nil", "free a free b free c free d free e", -1},
	{"a>nil b>nil c>nil d>nil e>nil _1>nil", "free a free b free c free d free e", 5},
	{"_1>nil a>nil", "free a", 0},
	{"a>_1 _1>nil", "free a", 1},
	{"a>_1 _1>nil", "b := [a] free b", -1},
	{"a>b", "c := [a]", -1},
	{"a>b", "[a] := c", -1},
	{"a>b", "a := c", 0},
	{"a>b", "new a free a", 0},
	{"a>b", "new b", 0},
	// Beside segments, Eqs and Nes.
	{"a=b c!nil b>nil c>d d..nil", "free a", 1},
	{"a=b c!nil c>d b>nil d..nil", "free a", 0},
	{"a=b c>d d..nil", "a := b", 0},
	{"b!nil b..nil a>b", "c := [b]", 0},
	{"b!nil b..nil a>b", "c := [a] c := [c]", -1},
	{"a..b b>nil", "free b", -1},
	{"a..b b>nil c>nil", "free b", 1},
	{"a..nil b>nil c>nil", "if a = nil { } { free a }", 0},
	{"a=b b=c d!e e!nil c>d d..e", "d := [a]", -1},
	{"a=b b=c d!e e!nil c>d e>a d..e", "d := [a]", 1},
	{"a!b b!c c!a d>a e>b a..b", "d := [e] d := [a]", 0},
	// A cell tells that something is not nil, or is not another one: without it there is a case more.
	{"a>nil b>nil", "if a = nil { free c } { }", 1},
	{"a>nil b>nil", "if a = b { free c } { }", -1},
	{"a>b b..nil", "if a = nil { free c } { c := [a] }", -1},
	{"b>nil a..b", "if b = nil { free c } { }", -1},
	{"a>nil a..b", "if a = b { } { free c }", -1},
	{"c>nil a>nil a..b", "if a = b { } { free c free c }", 0},
	// Nothing holds it, and so nothing fails; without a cell something may.
	{"a>nil a>nil", "free b", -1},
	{"a>nil a>nil a>nil", "free b", 0},
	{"b>nil a>nil a>nil", "free c", 0},
	{"nil>nil", "free b", -1},
	{"a>nil nil>nil", "free b", 0},
	{"a!a a>nil", "free b", 0},
	{"a=nil a>nil", "free b", -1},
	// Eqs are full, and one more stands behind them till they are tidied.
	{times(12, "nil=nil"), "a := nil", -1},
	{times(12, "nil=nil") + " b>nil", "a := [b]", -1},
	{times(12, "nil=nil") + " b>nil", "a := nil", 0},
	{times(12, "nil=nil") + " b>nil a>nil c>nil", "d := [a] c := [b]", 2},
	{times(12, "a=b") + " c>nil b>c", "c := [a] a := c b := c", 0},
	{times(12, "nil=nil") + " c>nil b>nil", "a := nil free b", 0},
	{times(12, "nil=nil") + " b>nil", "if a = b { } { }", -2},
	// Branches.
	{"a>nil b>nil", "if a = nil { free b } { free a }", 1},
	{"a>nil b>nil", "if c = nil { free b } { free a }", -1},
	{"a>nil b>nil c>nil", "if d = nil { free b } { free a }", 2},
	{"c>nil a>nil b>nil", "if d = nil { if e = d { free b } { } } { free a }", 0},
	{"a=nil b>nil c>nil", "if a = nil { free c } { free b }", 0},
	{"a>nil", "if b = c { free a } { }", -1},
	{"a>nil", "if b = b { } { free a }", 0},
	// Loops: without a cell what is told ahead of a turn, or behind one, does not follow.
	{"a..nil", dispose, -1},
	{"c>nil a..nil", "free c " + dispose, -1},
	{"a>b b..nil", dispose, -1},
	{"a>b b>nil", dispose, -1},
	{"a>nil", "while nil ! nil ( a>nil ) { }", -1},
	{"a>nil b>nil", "while a = nil ( a>nil b>nil ) { free c }", -1},
	{"a!b c>nil", "if a = b { " + dispose + " } { }", 0},
	{"a!b c>nil d>nil", "if a ! b { free c } { " + dispose + " }", 1},
	{"a>nil c>nil", "if a = nil { while c ! nil ( a..nil ) { c := [a] } } { free a }", -2}, // a turn fails, though there is none
	{"a>nil c>nil", "if a = nil { while a = nil ( a=nil ) { } } { free a }", 1},
}

func TestNeedlessKnownOnes(t *testing.T) {
	for _, c := range needlessTexts {
		if i := checkNeedless(t, anyOrder(t, c.pre), mustProg(t, c.prog)); i != c.want {
			t.Errorf("Needless(%q, %q) = %d, not %d", c.pre, c.prog, i, c.want)
		}
	}
}

// Without a cell it gives up: there are more cases.
func TestNeedlessWhereItGivesUp(t *testing.T) {
	pre := anyOrder(t, "a>nil a.._1 _2.._6 _3.._6 _4.._6 _5.._6")
	for _, c := range []struct {
		prog string
		want int
	}{
		{"e := nil", 0},
		{"if b = c { } { }", 0},
		{"e := nil if b = c { } { }", -1},
		{"if b = c { } { } e := nil", -1},
		{"e := nil if b = c { } { } if b = d { } { }", -2},
	} {
		if i := checkNeedless(t, pre, mustProg(t, c.prog)); i != c.want {
			t.Errorf("Needless(%q) = %d, not %d", c.prog, i, c.want)
		}
	}
	six := anyOrder(t, "b>nil c>nil d>nil e>nil a>nil _1>nil")
	for _, c := range []struct {
		prog string
		want int
	}{
		{"", 0},
		{"free a", 0},
		{"free b free a", 1},
		{"free a new a", 0},
		{"new a", -2},
	} {
		if i := checkNeedless(t, six, mustProg(t, c.prog)); i != c.want {
			t.Errorf("Needless(%q) = %d, not %d", c.prog, i, c.want)
		}
	}
}

// Each of the reasons, with cells that would be needless.
func TestNeedlessRefuses(t *testing.T) {
	good := mustRead(t, "a>nil b>nil")
	room, without := noRoom(t, "b!nil a>c c>nil b..nil")
	if i := checkNeedless(t, room, cmds{freeA}); i != 1 {
		t.Errorf("Needless(%s) = %d", asnWord(room), i)
	}
	for _, bad := range append(without, wrongAsns()...) {
		for _, l := range []cmds{nil, {freeA}, mustProg(t, dispose)} {
			if i := impl.Needless(bad, l); i != -2 {
				t.Errorf("Needless(%s) = %d", describe(bad), i)
			}
		}
	}
	for _, l := range slices.Concat(wrongProgs(), endlessProgs()) {
		for _, a := range []impl.Asn{good, {}, mustRead(t, "a!a a>nil"), without[0], wrongAsns()[3]} {
			if i := impl.Needless(a, l); i != -2 {
				t.Errorf("Needless(%s) of a wrong program = %d", describe(a), i)
			}
		}
	}
	for _, c := range []struct {
		pre, prog string
		verdict   int
	}{
		{"emp", "free a", impl.VdFault},
		{"b>nil", "free a", impl.VdFault},
		{"a..nil b>nil", "free a", impl.VdFault},
		{"a>nil b>nil", "free a free a", impl.VdFault},
		{"a>nil b>nil", "if c = d { free a } { free e }", impl.VdFault},
		{"a..nil c>nil", dispose, impl.VdInv},
		{"a>nil", "while a ! nil ( a>nil ) { free a }", impl.VdInv},
		{"a>nil b>nil c>nil", "new d new d new d new d", impl.VdGave},
		{"_1>_2 _3>_4 _5>_6 _7>_8 _9>_10", "a := nil", impl.VdGave},
		{"a>nil _1.._6 _2.._6 _3.._6 _4.._6 _5.._6", "b := nil if b = c { } { }", impl.VdGave},
	} {
		pre, l := anyOrder(t, c.pre), mustProg(t, c.prog)
		if _, v := checkExec(t, asns{pre}, l); v != c.verdict {
			t.Errorf("Exec(%q, %q) = %d", c.pre, c.prog, v)
		}
		if i := checkNeedless(t, pre, l); i != -2 {
			t.Errorf("Needless(%q, %q) = %d", c.pre, c.prog, i)
		}
	}
	// There is just room for pre alone, and there is for all that have less.
	if i := checkNeedless(t, fullAsn(6), nil); i != 0 {
		t.Errorf("Needless(%s) = %d", asnWord(fullAsn(6)), i)
	}
	if i := checkNeedless(t, fullAsn(5), nil); i != -2 {
		t.Errorf("Needless(%s) = %d", asnWord(fullAsn(5)), i)
	}
}

func TestNeedlessByAnotherWay(t *testing.T) {
	var places [impl.MaxSpace]int
	var none, not int
	count := func(i int) {
		switch i {
		case -1:
			none++
		case -2:
			not++
		default:
			places[i]++
		}
	}
	drawnTriples(t, 2000, func(d *draw, x triple) {
		count(checkNeedless(t, d.beside(x.pre, 1+d.below(2)), x.prog))
	})
	drawnWants(2000, func(d *draw, l cmds) {
		a, ok := impl.Missing(l)
		if !ok || len(l) > 12 {
			return
		}
		count(checkNeedless(t, d.beside(a, d.below(3)), l))
	})
	drawnKnowledge(t, 1000, func(d *draw, _ impl.State, l asns, _ bool, prog cmds) {
		count(checkNeedless(t, l[len(l)-1], prog))
	})
	if min(none, not) < 300 || slices.Min(places[:3]) < 100 {
		t.Fatalf("%v are needless, in %d there is none, %d do not hold", places, none, not)
	}
}

// beside is a with some more cells anywhere, most often at what no other piece begins at.
func (d *draw) beside(a impl.Asn, n int) impl.Asn {
	a = asnOf(clonedLists(a))
	for range min(n, impl.MaxSpace-len(a.Cells)-len(a.Segs)) {
		p := impl.Pair{A: 1 + d.below(8), B: d.value()}
		for range 5 {
			if knownBy(a).begin(p.A) > 0 {
				p.A = 1 + d.below(8)
			}
		}
		a.Cells = slices.Insert(a.Cells, d.below(len(a.Cells)+1), p)
	}
	return a
}
