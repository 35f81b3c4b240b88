package tests

import (
	"slices"
	"strings"
	"testing"

	"loop.example/g00621/impl"
)

// outcome is a list in one text, or the word for a verdict.
func outcome(l asns, v int) string {
	if v < 0 || v > impl.VdGave {
		return "refused"
	}
	if word := []string{"", "fault", "post", "inv", "gave"}[v]; v != impl.VdHolds {
		return word
	}
	return wordsOfAll(l)
}

// listFrom reads what wordsOfAll writes.
func listFrom(t *testing.T, text string) asns {
	t.Helper()
	if text == "" {
		return nil
	}
	return mustReadAll(t, strings.Split(text, "; ")...)
}

func TestExecOneKnownOnes(t *testing.T) {
	for _, c := range []struct{ a, cmd, want string }{
		// What comes of each of Cases, in order, tidied.
		{"a..nil", "b := a", "a=nil b=a; b=a a!nil a..nil"},
		{"a..nil", "b := nil", "a=nil b=nil; b=nil a!nil a..nil"},
		{"a..b b..nil", "c := nil", "a=b b=nil c=nil; a=b c=nil b!nil b..nil; b=nil c=nil a!b a..b; c=nil a!b b!nil a..b b..nil"},
		{"a!nil a..nil", "b := [a]", "a!nil a>b b..nil"},
		{"a!nil a..nil", "a := [a]", "_2!nil _2>a a..nil"},
		{"a!nil a..nil", "[a] := b", "a!nil a>b _1..nil"},
		{"a!nil a..nil", "free a", "a!nil _1..nil"},
		{"a>b b..nil", "free a", "b=nil; b!nil b..nil"},
		{"a>b b..nil", "b := [a]", "b=nil a>nil; b!nil a>b b..nil"},
		{"a>nil", "new a", "_1>nil a>nil"},
		{"a=b", "a := a", "a=b"},
		{"_1=a a=a _2!c a>_3", "[a] := d", "a>d"},
		{"emp", "new e", "e>nil"},
		{"a=b a>c", "b := nil", "b=nil a>c"},
		{"a=b a>c", "a := nil", "a=nil b>c"},
		// A fault in any of them.
		{"a..nil", "free a", "fault"},
		{"a..nil", "b := [a]", "fault"},
		{"b>nil a..b", "[a] := b", "a=b b>b; a!b b>nil a>b _1..b"},
		{"b..a", "free b", "fault"},
		{"emp", "free a", "fault"},
		{"b>nil", "[a] := nil", "fault"},
		// There is no case: nothing comes of it, and nothing fails.
		{"a!a", "free b", ""},
		{"a>b a>c", "free d", ""},
		{"nil>a", "new b", ""},
		{"a!b a>nil a..b", "a := [a]", ""},
		// It is refused.
		{"emp", "if a = b { } { }", "refused"},
		{"emp", "while a = b ( emp ) { }", "refused"},
	} {
		l, v := checkExecOne(t, mustRead(t, c.a), mustCmd(t, c.cmd))
		if got := outcome(l, v); got != c.want || v != impl.VdHolds && len(l) != 0 {
			t.Errorf("ExecOne(%q, %q) = %q, not %q", c.a, c.cmd, got, c.want)
		}
	}
}

var execTexts = []struct{ states, prog, want string }{
	// The empty program: they are as they are, not tidied, in whatever order.
	{"", "", ""},
	{"emp", "", "emp"},
	{"a=a _1=b; b..c; a!a", "", "a=a _1=b; b..c; a!a"},
	// One plain command behind another one.
	{"emp", "new a new b [a] := b", "a>b b>nil"},
	{"a>nil; b>nil", "a := nil", "a=nil _1>nil; a=nil b>nil"},
	{"a>b b>nil", "c := [a] free a a := c", "c=b a=c b>nil"},
	{"a>nil", "free a free a", "fault"},
	{"a>nil", "free a new b free b", "emp"},
	{"a..nil; b>nil", "c := nil", "a=nil c=nil; c=nil a!nil a..nil; c=nil b>nil"},
	{"a>nil; b>nil", "free a", "fault"},
	{"b>nil; a>nil", "free a", "fault"},
	{"", "free a new b", ""},
	{"a!a", "free b free c", ""},
	// CmIf: A is done to what is assumed, B to what is assumed the other way.
	{"a..nil", "if a = nil { b := nil } { free a }", "a=nil b=nil; a!nil _1..nil"},
	{"a..nil", "if a ! nil { free a } { b := nil }", "a!nil _1..nil; a=nil b=nil"},
	{"a..nil", "if a ! nil { } { }", "a!nil a..nil; a=nil a..nil"},
	{"a..nil", "if a = nil { } { }", "a=nil a..nil; a!nil a..nil"},
	{"a>nil", "if a = nil { free b } { free a }", "a!nil"},
	{"a>nil", "if a ! nil { free a } { free b }", "a!nil"},
	{"a>nil", "if a = nil { free b } { free c }", "fault"},
	{"a>nil", "if nil = nil { free a } { free a free a }", "emp"},
	{"a>nil; b>nil", "if a = b { } { }", "a=b a>nil; a=b b>nil; a!b a>nil; a!b b>nil"},
	{"a>nil; a=b", "if a = b { c := a } { c := b }", "a=b c=a a>nil; a=b c=a; c=b a!b a>nil"},
	{"a=b", "if a ! b { free a } { c := nil }", "a=b c=nil"},
	{"a=b", "if a = b { if b ! nil { d := a } { d := b } } { free e }", "a=b d=a b!nil; a=b b=nil d=b"},
	{"", "if a = b { free a } { free b }", ""},
	// One behind the other: what comes of A first, of all of them.
	{"a>nil; b>nil", "if c = d { new e } { free c }", "fault"},
	{"c>nil; c>d", "if c = d { new e } { free c }", "c=d c>nil e>nil; c=d c>d e>nil; c!d; c!d"},
	// CmWhile: what comes of it is Inv with what is assumed the other way.
	{"a..nil", "while a ! nil ( a..nil ) { b := [a] free a a := b }", "a=nil a..nil"},
	{"a..nil", "while a ! nil ( nil..a a..nil ) { }", "inv"},
	{"a=nil", "while a ! nil ( nil..a a..nil ) { }", "a=nil nil..a a..nil"},
	{"a=nil", "while a = nil ( a..nil ) { }", "a!nil a..nil"},
	{"a=nil", "while a = nil ( a=nil ) { }", ""},
	{"a=nil", "while nil = nil ( emp ) { }", ""},
	{"a=nil", "while nil ! nil ( emp ) { }", "emp"},
	{"a=b", "while b ! b ( b=a a=b a=a ) { }", "b=a"},
	{"a!b", "while c = d ( b!a b!a ) { c := e }", "b!a c!d"},
	{"a=nil; a=nil b..nil", "while a ! nil ( b..nil ) { }", "inv"},
	{"a=nil b=nil; b>nil", "while a ! nil ( b..nil ) { }", "a=nil b..nil"},
	// All are asked ahead of the loop.
	{"b..nil; a>nil", "while a ! nil ( b..nil ) { }", "inv"},
	// A turn is begun with Inv and what is assumed, not with what was known.
	{"b=nil a>nil", "while a = b ( a..nil ) { free a }", "fault"},
	{"b=c a>nil", "while b = c ( b=c a..nil ) { }", ""},
	{"b=c a>nil", "while b = c ( a..nil ) { }", "b!c a..nil"},
	// No state: the loop is held all the same.
	{"", "while a ! nil ( a..nil ) { b := [a] free a a := b }", "a=nil a..nil"},
	{"", "while a ! nil ( a..nil ) { free b }", "fault"},
	{"", "while a ! nil ( a..nil ) { free a }", "inv"},
	{"a!a", "while a ! nil ( a..nil ) { }", "a=nil a..nil"},
	// Loops and branches in each other, and behind each other.
	{"a..nil", "while a ! nil ( a..nil ) { b := [a] free a if b = nil { a := nil } { a := b } } new a", "a>nil"},
	{"a..nil b..nil", "while a ! nil ( a..nil b..nil ) { while b ! nil ( a..nil b..nil ) { c := [b] free b b := c } a := a b := a a := nil }", "a=nil a..nil b..nil"},
	{"a..nil", "if a = nil { } { while a ! nil ( a..nil ) { b := [a] free a a := b } }", "a=nil a..nil; a=nil a..nil"},
	{"a..nil", "while a ! nil ( a..nil ) { b := [a] free a a := b } while b ! nil ( emp ) { b := nil }", "b=nil"},
	{"a..nil", "while a ! nil ( a..nil ) { b := [a] free a a := b } while b ! nil ( a=nil ) { b := nil }", "a=nil b=nil"},
}

func TestExecKnownOnes(t *testing.T) {
	for _, c := range execTexts {
		l, v := checkExec(t, listFrom(t, c.states), mustProg(t, c.prog))
		if got := outcome(l, v); got != c.want || v != impl.VdHolds && len(l) != 0 {
			t.Errorf("Exec(%q, %q) = %q, not %q", c.states, c.prog, got, c.want)
		}
	}
}

// manyCases has so many of Cases, at most 32; beside that a>nil, and nothing that tells of b.
func manyCases(t *testing.T, n int) impl.Asn {
	t.Helper()
	a := mustRead(t, "a>nil")
	for i := 1; n > 1; n, i = n/2, i+1 {
		if n%2 != 0 {
			t.Fatalf("%d cases", n)
		}
		a.Segs = append(a.Segs, impl.Pair{A: impl.Vars + i, B: impl.Vars + 6})
	}
	return a
}

// Just MaxStates come of plain commands, and one more.
func TestExecPutsForty(t *testing.T) {
	c := mustCmd(t, "b := nil")
	for _, x := range []struct {
		cases []int
		want  int
	}{
		{[]int{1}, 1}, {[]int{32}, 32}, {[]int{32, 4}, 36}, {[]int{32, 8}, 40}, {[]int{8, 32}, 40}, {[]int{32, 8, 1}, -1}, {[]int{1, 32, 8}, -1}, {[]int{32, 16}, -1}, {[]int{32, 32, 32}, -1},
		{slices.Repeat([]int{1}, 40), 40}, {append(slices.Repeat([]int{1}, 39), 2), -1}, {append(slices.Repeat([]int{1}, 38), 2), 40}, {slices.Repeat([]int{32}, 40), -1},
	} {
		var l asns
		for _, n := range x.cases {
			l = append(l, manyCases(t, n))
		}
		got, v := checkExec(t, l, cmds{c})
		if x.want >= 0 && (v != impl.VdHolds || len(got) != x.want) || x.want < 0 && (v != impl.VdGave || len(got) != 0) {
			t.Errorf("of %v come %d, %d", x.cases, len(got), v)
		}
	}
	for n := 1; n <= 32; n *= 2 {
		if l, v := checkExecOne(t, manyCases(t, n), c); v != impl.VdHolds || len(l) != n {
			t.Errorf("of one with %d come %d, %d", n, len(l), v)
		}
	}
	six := manyCases(t, 32)
	six.Cells, six.Segs = nil, append(slices.Clone(six.Segs), impl.Pair{A: 1, B: 2})
	if l, v := checkExecOne(t, six, c); v != impl.VdGave || len(l) != 0 {
		t.Errorf("of one with 64 come %d, %d", len(l), v)
	}
}

// crowded has room; in its last case all of its segments stand in Nes, too.
func crowded(t *testing.T, nes string) impl.Asn {
	t.Helper()
	return with(t, mustRead(t, nes), "a>nil _1.._2 _3.._4 _5.._6 _7.._8 _9.._10")
}

// Once it is tidied there is room for what comes of a case, or is none.
func TestExecWantsRoom(t *testing.T) {
	ten := "b=nil c=nil d=nil e=nil c=b d=b e=b d=c e=c e=d a>nil"
	named := func(n int) impl.Asn {
		return with(t, impl.Asn{Eqs: repeated(impl.Pair{A: 6, B: 7}, n)}, "a!nil a..nil")
	}
	for _, c := range []struct {
		a    impl.Asn
		cmd  string
		want int
	}{
		// By Eqs: there is one more.
		{mustRead(t, ten+" _2.._3 _4.._5"), "a := nil", impl.VdGave},
		{mustRead(t, ten+" _2.._3 _4.._5"), "a := [a]", impl.VdGave},
		{mustRead(t, ten+" _2.._3 _4.._5"), "[a] := a", impl.VdHolds},
		{mustRead(t, ten+" _2.._3 _4.._5"), "free a", impl.VdHolds},
		{mustRead(t, ten+" _2.._3 _4.._5"), "new a", impl.VdHolds},
		{mustRead(t, ten+" _2.._3"), "a := nil", impl.VdHolds},
		{mustRead(t, ten+" _2.._3"), "a := [a]", impl.VdHolds},
		// By Nes: each segment that has something is one more.
		{crowded(t, "b!nil c!nil"), "free a", impl.VdHolds},
		{crowded(t, "b!nil c!nil d!nil"), "free a", impl.VdGave},
		{crowded(t, "b!nil c!nil"), "[a] := a", impl.VdHolds},
		{crowded(t, "b!nil c!nil d!nil"), "[a] := a", impl.VdGave},
		// Room only then.
		{crowded(t, "b!nil nil!b c!nil b!nil"), "free a", impl.VdHolds},
		{crowded(t, "b!nil nil!b c!nil c!b"), "free a", impl.VdGave},
		{named(11), "b := nil", impl.VdHolds},
		{named(11), "b := [a]", impl.VdHolds},
		{named(11), "free a", impl.VdHolds},
		{named(10), "b := nil", impl.VdHolds},
		// Before that there is none: it is refused.
		{named(12), "free a", -1},
		{crowded(t, "b!nil c!nil d!nil e!nil b!c b!d b!e"), "free a", impl.VdGave},
		{crowded(t, "b!nil c!nil d!nil e!nil b!c b!d b!e c!d"), "free a", -1},
	} {
		l, v := checkExecOne(t, c.a, mustCmd(t, c.cmd))
		if v != c.want || v != impl.VdHolds && len(l) != 0 {
			t.Errorf("ExecOne(%s, %q) = %d, not %d", asnWord(c.a), c.cmd, v, c.want)
		}
	}
}

// times has a word so many times.
func times(n int, word string) string {
	return strings.TrimSuffix(strings.Repeat(word+" ", n), " ")
}

// twelveAlike are twelve that differ: each two variables, and two of them with nil.
const twelveAlike = "a=b a=c a=d a=e b=c b=d b=e c=d c=e d=e a=nil b=nil"

// Eqs are full, and one more stands behind them: whether there is room is asked once that is tidied.
var fullTexts = []struct{ a, cmd, want string }{
	// Those that are there are of one term.
	{times(12, "nil=nil"), "a := nil", "a=nil"},
	{times(12, "nil=nil"), "a := b", "a=b"},
	{times(12, "nil=nil"), "a := a", "emp"},
	{times(12, "a=a"), "a := b", "a=b"},
	{times(12, "a=a"), "b := a", "b=a"},
	{times(12, "_1=_1"), "a := nil", "a=nil"},
	// They are the same, either way about.
	{times(12, "a=b"), "c := nil", "a=b c=nil"},
	{times(12, "a=b"), "a := nil", "a=nil"},
	{times(12, "a=b"), "a := b", "a=b"},
	{times(12, "a=b"), "b := b", "b=a"},
	{times(6, "a=b b=a"), "c := d", "a=b c=d"},
	{times(6, "a=b c=d"), "a := d", "c=d a=d"},
	// They have names.
	{times(12, "_1=_2"), "a := a", "emp"},
	{times(12, "_1=a"), "b := a", "b=a"},
	{times(6, "_1=a _1=b"), "c := a", "a=b c=a"},
	{times(6, "_1=a _1=b"), "a := c", "a=c"},
	// They all differ.
	{twelveAlike, "e := e", "a=b a=c a=d b=c b=d c=d a=nil b=nil e=a"},
	{twelveAlike, "a := nil", "b=c b=d b=e c=d c=e d=e b=nil a=nil"},
	// Beside a cell.
	{times(12, "nil=nil") + " b>nil", "a := [b]", "a=nil b>nil"},
	{times(12, "nil=nil") + " b>nil", "b := [b]", "b=nil _1>nil"},
	{times(12, "nil=nil") + " a>b", "b := [a]", "a>b"},
	{times(12, "nil=nil") + " b>_1 _1>_2", "a := [b]", "b>a a>_2"},
	{times(12, "a=b") + " b>c", "d := [a]", "a=b d=c b>c"},
	{times(12, "a=b") + " b>c", "a := [a]", "a=c b>c"},
	// Beside Nes.
	{times(12, "nil=nil") + " a!nil b!nil", "c := b", "c=b a!nil b!nil"},
	{times(12, "nil=nil") + " " + times(12, "a!b"), "a := b", "a=b"},
	{times(12, "a=b") + " c!d c!d e!_1 _1!a c>_1", "e := b", "a=b e=b c!d _1!a c>_1"},
	// Where segments have nothing Eqs are full, where one has something they are not.
	{times(11, "nil=nil") + " a..nil", "b := nil", "a=nil b=nil; b=nil a!nil a..nil"},
	{times(11, "nil=nil") + " a..nil", "a := b", "a=b; a=b _1!nil _1..nil"},
	{times(11, "nil=nil") + " c>d a..nil", "b := [c]", "a=nil b=d c>d; b=d a!nil c>d a..nil"},
	{times(10, "nil=nil") + " a..nil b..nil", "c := a", "a=nil b=nil c=a; a=nil c=a b!nil b..nil; b=nil c=a a!nil a..nil; c=a a!nil b!nil a..nil b..nil"},
	{times(6, "nil=nil") + " " + times(6, "a..a"), "b := nil", "b=nil"},
	// Others put nothing behind Eqs; and one less is not full.
	{times(12, "nil=nil"), "new a", "a>nil"},
	{times(12, "nil=nil") + " a>b", "[a] := c", "a>c"},
	{times(12, "nil=nil") + " a>b", "free a", "emp"},
	{times(11, "nil=nil"), "a := b", "a=b"},
	// There are too many pieces, however it is tidied; or there is no fresh name.
	{times(12, "nil=nil") + " a>nil b>nil c>nil d>nil e>nil _1>nil", "new a", "gave"},
	{"_1=_2 _3=_4 _5=_6 _7=_8 _9=_10 " + times(7, "nil=nil"), "a := b", "gave"},
	{"_1=_2 _3=_4 _5=_6 _7=_8 _9=_9 " + times(7, "nil=nil"), "a := b", "a=b"},
	{"_1=_2 _3=_4 _5=_6 _7=_8 _9=_10 " + times(7, "nil=nil") + " b>c", "a := [b]", "gave"},
	{"_1=_2 _3=_4 _5=_6 _7=_8 _9=_9 " + times(7, "nil=nil") + " b>c", "a := [b]", "a=c b>c"},
	// It fails, there is no case, or there is no room ahead of it.
	{times(12, "nil=nil"), "free a", "fault"},
	{times(12, "nil=nil") + " b>nil", "a := [c]", "fault"},
	{times(12, "nil=nil") + " a!a", "a := b", ""},
	{times(12, "nil=nil") + " a..nil", "b := a", "refused"},
}

func TestExecOneOfFullOnes(t *testing.T) {
	for _, c := range fullTexts {
		l, v := checkExecOne(t, mustRead(t, c.a), mustCmd(t, c.cmd))
		if got := outcome(l, v); got != c.want || v != impl.VdHolds && len(l) != 0 {
			t.Errorf("ExecOne(%q, %q) = %q, not %q", c.a, c.cmd, got, c.want)
		}
		l, v = checkExec(t, mustReadAll(t, c.a), mustProg(t, c.cmd))
		if got := outcome(l, v); got != c.want || v != impl.VdHolds && len(l) != 0 {
			t.Errorf("Exec(%q, %q) = %q, not %q", c.a, c.cmd, got, c.want)
		}
	}
}

func TestExecOfFullOnes(t *testing.T) {
	twelve := times(12, "nil=nil")
	for _, c := range []struct{ states, prog, want string }{
		{twelve, "", twelve},
		{twelve, "a := nil b := a c := d", "a=nil b=a c=d"},
		{twelve + "; " + times(12, "a=b") + "; a=c", "c := nil", "c=nil; a=b c=nil; c=nil"},
		{twelve + " b>nil; c>nil", "a := [b]", "fault"},
		{"c>nil; " + twelve + " b>nil", "a := [b]", "fault"},
		{twelve + " b>nil", "a := [b] free b if a = nil { } { free a }", "a=nil"},
		{twelve, "new a a := nil", "a=nil _1>nil"},
		{twelve, "a := nil if a = b { c := b } { }", "a=nil a=b c=b; a=nil a!b"},
		{times(11, "nil=nil"), "if b = nil { a := nil } { a := b }", "b=nil a=nil; a=b b!nil"},
		{twelve, "a := nil while a ! nil ( a=nil ) { a := b }", "a=nil"},
		{twelve, "a := nil while a = nil ( a=nil ) { a := b }", "inv"},
		{twelve, "while a ! nil ( emp ) { b := nil } b := a", "a=nil b=a"},
		// There has to be room for what is assumed, ahead of its being tidied.
		{twelve, "if a = nil { } { }", "gave"},
		{twelve, "if a ! nil { } { }", "gave"},
		{twelve, "a := nil if a ! nil { } { }", "a=nil"},
	} {
		l, v := checkExec(t, listFrom(t, c.states), mustProg(t, c.prog))
		if got := outcome(l, v); got != c.want || v != impl.VdHolds && len(l) != 0 {
			t.Errorf("Exec(%q, %q) = %q, not %q", c.states, c.prog, got, c.want)
		}
	}
	// Just MaxStates of them, and one more.
	one, two := mustRead(t, twelve), mustRead(t, times(11, "nil=nil")+" a..nil")
	for _, c := range []struct{ one, two, want int }{{39, 0, 39}, {40, 0, 40}, {0, 20, 40}, {1, 19, 39}, {2, 19, 40}, {3, 19, -1}, {1, 20, -1}, {0, 21, -1}} {
		l, v := checkExec(t, slices.Concat(slices.Repeat(asns{one}, c.one), slices.Repeat(asns{two}, c.two)), mustProg(t, "b := c"))
		if c.want >= 0 && (v != impl.VdHolds || len(l) != c.want) || c.want < 0 && (v != impl.VdGave || len(l) != 0) {
			t.Errorf("of %d and %d come %d, %d", c.one, c.two, len(l), v)
		}
	}
}

// Of what is done and what is put, case by case, the first verdict counts.
func TestExecTheFirstVerdictCounts(t *testing.T) {
	fine, fault, gives := manyCases(t, 1), mustRead(t, "c>nil"), crowded(t, "b!nil c!nil d!nil")
	noName := with(t, full(0), "a!nil a..nil")
	for _, c := range []struct {
		l    asns
		want int
	}{
		{asns{manyCases(t, 32), manyCases(t, 8)}, impl.VdHolds},
		{asns{manyCases(t, 32), manyCases(t, 8), fine}, impl.VdGave},
		{asns{manyCases(t, 32), manyCases(t, 8), fault}, impl.VdFault},
		{asns{manyCases(t, 32), manyCases(t, 8), fault, fine}, impl.VdFault},
		{asns{manyCases(t, 32), manyCases(t, 8), fine, fault}, impl.VdGave},
		{asns{fault, manyCases(t, 32), manyCases(t, 32)}, impl.VdFault},
		{asns{manyCases(t, 32), fault, manyCases(t, 32)}, impl.VdFault},
		{asns{gives}, impl.VdGave},
		{asns{gives, fault}, impl.VdGave},
		{asns{fault, gives}, impl.VdFault},
		{asns{fine, gives, fault}, impl.VdGave},
		{asns{fine, fault, gives}, impl.VdFault},
		{asns{noName, fault}, impl.VdGave},
		{asns{fault, noName}, impl.VdFault},
	} {
		l, v := impl.Exec(c.l, mustProg(t, "free a"))
		if v != c.want || v != impl.VdHolds && len(l) != 0 {
			t.Errorf("of %d states come %d, %d, not %d", len(c.l), len(l), v, c.want)
		}
	}
	// Command by command: a later one is not done then.
	for _, c := range []struct {
		prog string
		want int
	}{
		{"free b free a", impl.VdFault},
		{"if a = nil { } { free b } while a ! nil ( emp ) { }", impl.VdFault},
		{"while a ! nil ( emp ) { } free b", impl.VdInv},
		{"while a ! nil ( a>nil ) { new b } free b", impl.VdInv},
		{"while a ! nil ( a>nil ) { free b } while a ! nil ( emp ) { }", impl.VdFault},
		{"free a while a ! nil ( a>nil ) { free b }", impl.VdInv},
	} {
		if _, v := checkExec(t, asns{fine}, mustProg(t, c.prog)); v != c.want {
			t.Errorf("%q: %d, not %d", c.prog, v, c.want)
		}
	}
}

// Both are one behind the other: just MaxStates, and one more.
func TestBranchesTogether(t *testing.T) {
	split, one := mustRead(t, "a>nil"), mustRead(t, "a>nil b>nil")
	for _, c := range []struct {
		split, one int
		prog       string
		want       int
	}{
		{20, 0, "if a = b { } { }", 40},
		{19, 1, "if a = b { } { }", 39},
		{19, 2, "if a = b { } { }", 40},
		{19, 3, "if a = b { } { }", -1},
		{20, 1, "if a = b { } { }", -1},
		{20, 1, "if a ! b { } { }", -1},
		{21, 0, "if a = b { } { }", -1},
		{40, 0, "if a = b { } { }", -1},
		{0, 40, "if a = b { } { }", 40},
		{0, 40, "if a ! b { } { }", 40},
		// What is done in them is done to fewer.
		{20, 0, "if a = b { free a } { free a }", 40},
		{20, 1, "if a = b { free b } { free a }", -1},
		// A loop in one of them leaves one, or none.
		{40, 0, "if a = b { while a ! nil ( a..nil ) { a := a } } { }", -1},
		{39, 0, "if a = b { while a ! nil ( a..nil ) { } } { }", 40},
		{40, 0, "if a = b { while nil = nil ( a..nil ) { } } { }", 40},
		{20, 0, "if a = b { if a = c { } { } } { }", -1},
		{10, 0, "if a = b { if a = c { } { } } { if c ! nil { } { } }", 40},
		{10, 1, "if a = b { if a = c { } { } } { if c ! nil { } { } }", -1},
	} {
		l := slices.Concat(slices.Repeat(asns{split}, c.split), slices.Repeat(asns{one}, c.one))
		got, v := checkExec(t, l, mustProg(t, c.prog))
		if c.want >= 0 && (v != impl.VdHolds || len(got) != c.want) || c.want < 0 && (v != impl.VdGave || len(got) != 0) {
			t.Errorf("%d and %d, %q: %d of them, %d", c.split, c.one, c.prog, len(got), v)
		}
	}
}

// In a branch: both ways are assumed, A is done, B is done, both are put together; what ends it first counts.
func TestBranchesTheFirstVerdictCounts(t *testing.T) {
	// There is room for it, but not for one more of Eqs, or of Nes.
	eqs := with(t, impl.Asn{Eqs: repeated(impl.Pair{A: 4, B: 4}, 11)}, "a!nil a..nil")
	nes := with(t, impl.Asn{Nes: repeated(impl.Pair{A: 1}, 11)}, "a..nil")
	neither := with(t, impl.Asn{Eqs: repeated(impl.Pair{A: 4, B: 4}, 11), Nes: repeated(impl.Pair{A: 1}, 11)}, "a..nil")
	less := with(t, impl.Asn{Eqs: repeated(impl.Pair{A: 4, B: 4}, 10), Nes: repeated(impl.Pair{A: 1}, 10)}, "a..nil")
	fine := mustRead(t, "a>nil")
	inv, fault := "while a = nil ( a=nil a>nil ) { }", "free d"
	gave := "new d new d new d new d new d new d"
	for _, c := range []struct {
		l    asns
		prog string
		want int
	}{
		{asns{less}, "if a = b { } { }", impl.VdHolds},
		{asns{less}, "if a = b { free d } { }", impl.VdFault},
		{asns{eqs}, "if a = b { } { }", impl.VdGave},
		{asns{nes}, "if a = b { } { }", impl.VdGave},
		{asns{neither}, "if a ! b { } { }", impl.VdGave},
		{asns{eqs}, "if a ! b { free d } { }", impl.VdGave}, // the other way is assumed ahead of what is done
		{asns{eqs}, "if a = b { free d } { }", impl.VdGave},
		{asns{nes}, "if a = b { free d } { }", impl.VdGave},
		{asns{nes}, "if a ! b { free d } { }", impl.VdGave},
		{asns{less, eqs}, "if a ! b { free d } { }", impl.VdGave},
		{asns{nes, less}, "if a = b { free d } { }", impl.VdGave},
		{asns{fine}, "if a = b { " + fault + " } { }", impl.VdFault},
		{asns{fine}, "if a = b { } { " + fault + " }", impl.VdFault},
		{asns{fine}, "if a = b { " + inv + " } { }", impl.VdInv},
		{asns{fine}, "if a = b { } { " + inv + " }", impl.VdInv},
		{asns{fine}, "if a = b { " + gave + " } { }", impl.VdGave},
		{asns{fine}, "if a = b { } { " + gave + " }", impl.VdGave},
		{asns{fine}, "if a = b { " + fault + " } { " + inv + " }", impl.VdFault},
		{asns{fine}, "if a = b { " + inv + " } { " + fault + " }", impl.VdInv},
		{asns{fine}, "if a = b { " + gave + " } { " + fault + " }", impl.VdGave},
		{asns{fine}, "if a = b { " + fault + " } { " + gave + " }", impl.VdFault},
		{asns{fine}, "if a = b { " + gave + " } { " + inv + " }", impl.VdGave},
		{asns{fine}, "if a = b { " + inv + " } { " + gave + " }", impl.VdInv},
		// Together they are too many, but B fails ahead of that.
		{slices.Repeat(asns{fine}, 30), "if a = b { } { free d }", impl.VdFault},
		{slices.Repeat(asns{fine}, 30), "if a = b { } { free a }", impl.VdGave},
		{slices.Repeat(asns{fine}, 30), "if a = b { free d } { }", impl.VdFault},
		{slices.Repeat(asns{fine}, 30), "if a = b { } { } free d", impl.VdGave},
	} {
		l, v := checkExec(t, c.l, mustProg(t, c.prog))
		if v != c.want || v != impl.VdHolds && len(l) != 0 {
			t.Errorf("%d states, %q: %d, not %d", len(c.l), c.prog, v, c.want)
		}
	}
}

// In a loop: Inv ahead of it, a turn, Inv behind that; what ends it first counts.
func TestLoopsTheFirstVerdictCounts(t *testing.T) {
	for _, c := range []struct {
		states, prog string
		want         int
	}{
		{"a..nil", "while a ! nil ( a..nil ) { b := [a] free a a := b }", impl.VdHolds},
		// Ahead of it.
		{"a..b", "while a ! nil ( a..nil ) { b := [a] free a a := b }", impl.VdInv},
		{"a..nil; a..b", "while a ! nil ( a..nil ) { b := [a] free a a := b }", impl.VdInv},
		{"a..b; a..nil", "while a ! nil ( a..nil ) { b := [a] free a a := b }", impl.VdInv},
		{"a..nil; a>b; a..nil", "while a ! nil ( a..nil ) { b := [a] free a a := b }", impl.VdInv},
		{"emp", "while a ! nil ( a>nil ) { free a free a }", impl.VdInv}, // though a turn would fail
		{"emp", "while a ! nil ( a>nil ) { new b }", impl.VdInv},
		{"emp", "while a ! nil ( a!a ) { }", impl.VdInv},
		// Within a turn.
		{"a>nil", "while a ! nil ( a>nil ) { free a free a }", impl.VdFault},
		{"a>nil", "while a ! nil ( a>nil ) { new b free c }", impl.VdFault},
		{"a>nil", "while a ! nil ( a>nil ) { while b = c ( emp ) { } }", impl.VdInv},
		{"a>nil", "while a ! nil ( a>nil ) { while b = c ( a>nil ) { free a free a } }", impl.VdFault},
		{"a>nil", "while a ! nil ( a>nil ) { new b new b new b new b new b new b }", impl.VdGave},
		{"a>nil", "while a ! nil ( a>nil ) { new b new b new b new b new b new b free e }", impl.VdGave},
		{"a>nil", "while a ! nil ( a>nil ) { free e new b new b new b new b new b new b }", impl.VdFault},
		// Behind it.
		{"a>nil", "while a ! nil ( a>nil ) { new b }", impl.VdInv},
		{"a>nil", "while a ! nil ( a>nil ) { free a }", impl.VdInv},
		{"a>nil", "while a ! nil ( a>nil ) { free a new a }", impl.VdHolds},
		{"a>nil b>nil", "while a ! nil ( a>nil b>nil ) { free a new a [a] := b }", impl.VdInv},
		{"b=nil", "while a ! nil ( b=nil ) { if c = d { } { b := c } }", impl.VdInv}, // one of two alone
		{"b=nil", "while a ! nil ( b=nil ) { if c = d { b := c } { } }", impl.VdInv},
		{"b=nil", "while a ! nil ( b=nil ) { if c = d { a := c } { a := d } }", impl.VdHolds},
		// Without a turn nothing fails, but for what is ahead of it.
		{"a=b", "while a ! b ( a=b ) { free a }", impl.VdHolds},
		{"a=b", "while nil ! nil ( emp ) { free a }", impl.VdHolds},
		{"a=b", "while nil ! nil ( a=c ) { free a }", impl.VdInv},
		{"a=b", "while a = b ( emp ) { free a }", impl.VdFault},
		{"a!b", "while a = b ( emp ) { free a }", impl.VdFault}, // a turn knows nothing but Inv
		{"a!b", "while a = b ( a!b ) { free a }", impl.VdHolds},
		// What is assumed is known in a turn.
		{"emp", "while a = b ( emp ) { while c = c ( a=b ) { } }", impl.VdHolds},
		{"emp", "while a ! b ( emp ) { while c = c ( a!b ) { } }", impl.VdHolds},
		{"emp", "while a ! b ( emp ) { while c = c ( a=b ) { } }", impl.VdInv},
		{"emp", "while a = b ( emp ) { while c = c ( a!b ) { } }", impl.VdInv},
		// And the other way behind it.
		{"emp", "while a = b ( emp ) { } while c = c ( a!b ) { }", impl.VdHolds},
		{"emp", "while a ! b ( emp ) { } while c = c ( a=b ) { }", impl.VdHolds},
		{"emp", "while a = b ( emp ) { } while c = c ( a=b ) { }", impl.VdInv},
		{"emp", "while a ! b ( emp ) { } while c = c ( a!b ) { }", impl.VdInv},
	} {
		l, v := checkExec(t, listFrom(t, c.states), mustProg(t, c.prog))
		if v != c.want || v != impl.VdHolds && len(l) != 0 {
			t.Errorf("Exec(%q, %q) = %d, not %d", c.states, c.prog, v, c.want)
		}
	}
}

func TestExecRefuses(t *testing.T) {
	good := mustReadAll(t, "a>b b>nil", "a>nil")
	refuses := func(what string, l asns, prog cmds) {
		t.Helper()
		if got, v := impl.Exec(l, prog); v != -1 || len(got) != 0 {
			t.Errorf("Exec of %s = %v, %d", what, got, v)
		}
	}
	for i, l := range slices.Concat(wrongProgs(), endlessProgs()) {
		refuses("a wrong program", good[:i%3], l)
	}
	roomless := append(wrongAsns(), chain(6), chain(6), mustRead(t, "a..nil"), mustRead(t, "a..nil"))
	n := len(roomless)
	roomless[n-4].Eqs = repeated(impl.Pair{A: 1, B: 1}, 7)
	roomless[n-3].Nes = repeated(impl.Pair{A: 1, B: 2}, 7)
	roomless[n-2].Eqs = repeated(impl.Pair{A: 6, B: 1}, 12)
	roomless[n-1].Nes = repeated(impl.Pair{A: 6, B: 1}, 12)
	for _, bad := range roomless {
		for _, l := range []asns{{bad}, {bad, good[0]}, {good[0], bad}, append(many(t, 39), bad)} {
			for _, prog := range []cmds{nil, {freeA}, mustProg(t, "if a = b { } { }"), mustProg(t, "while a = b ( emp ) { }"), mustProg(t, "free e free e")} {
				refuses(describe(bad), l, prog)
			}
		}
		for _, c := range oneOfEach() {
			if l, v := impl.ExecOne(bad, c); v != -1 || len(l) != 0 {
				t.Errorf("ExecOne(%s) = %v, %d", describe(bad), l, v)
			}
		}
		if v := impl.Verify(bad, nil, impl.Asn{}); v != -1 {
			t.Errorf("Verify(%s) = %d", describe(bad), v)
		}
		if l, ok := impl.Assume(bad, 1, 2, true); ok || len(l) != 0 {
			t.Errorf("Assume(%s) = %v, %v", describe(bad), l, ok)
		}
	}
	for _, n := range []int{41, 42, 80, 5000} {
		refuses("too many", slices.Repeat(good[1:], n), nil)
		refuses("too many", slices.Repeat(good[1:], n), cmds{freeA})
	}
	if l, v := checkExec(t, many(t, 40), nil); v != impl.VdHolds || !sameAsns(l, many(t, 40)) {
		t.Error("Exec of 40")
	}
}

func TestAssumeKnownOnes(t *testing.T) {
	for _, c := range []struct {
		a    string
		x, y int
		eq   bool
		want string
	}{
		{"emp", 1, 2, true, "a=b"},
		{"emp", 1, 2, false, "a!b"},
		{"emp", 2, 1, true, "b=a"},
		{"emp", 2, 1, false, "b!a"},
		{"emp", 1, 0, true, "a=nil"},
		{"emp", 0, 1, false, "nil!a"},
		{"emp", 1, 1, true, "emp"},
		{"emp", 0, 0, true, "emp"},
		{"emp", 1, 1, false, ""},
		{"emp", 0, 0, false, ""},
		// Behind Eqs, and behind Nes; what is there already is kept.
		{"c=d c!a", 1, 2, true, "c=d a=b c!a"},
		{"c=d c!a", 1, 2, false, "c=d c!a a!b"},
		{"a=b", 2, 1, true, "a=b"},
		{"a!b", 2, 1, false, "a!b"},
		// There is none.
		{"a=b", 1, 2, false, ""},
		{"a!b", 1, 2, true, ""},
		{"a>nil b>nil", 1, 2, true, ""},
		{"a>nil b>nil", 1, 2, false, "a!b a>nil b>nil"},
		{"a>nil", 0, 1, true, ""},
		{"a=b b=c", 1, 3, false, ""},
		{"a!a", 1, 2, true, ""},
		{"a!a", 1, 2, false, ""},
		{"a..b", 1, 2, true, "a=b a..b"}, // the case is not chosen
		{"a..b", 1, 2, false, "a!b a..b"},
		{"a>nil a..b", 1, 2, false, ""},
		{"a>nil a..b", 1, 2, true, "a=b a>nil a..b"},
		// With a name, and tidied.
		{"_1>b", 6, 1, true, "a>b"},
		{"_1>b", 1, 6, false, "a!_1 _1>b"},
		{"a>b", 6, 1, true, "a>b"},
		{"a>b", 6, 1, false, "a>b"},
		{"_1>b", 6, 7, true, "_1>b"},
		{"_2>b", 6, 7, true, "_1>b"},
		{"_2>b _1>b", 6, 7, true, ""},
		{"_1>b", 15, 0, false, "_1>b"},
		{"_1>b", 6, 6, false, ""},
		{"_1=a a=a _2!b b!c c!b _1>b", 4, 5, true, "d=e b!c a>b"},
	} {
		l := checkAssume(t, mustRead(t, c.a), c.x, c.y, c.eq)
		if wordsOfAll(l) != c.want {
			t.Errorf("Assume(%q, %d, %d, %v) = %q", c.a, c.x, c.y, c.eq, wordsOfAll(l))
		}
		if _, ok := impl.Assume(mustRead(t, c.a), c.x, c.y, c.eq); !ok {
			t.Errorf("Assume(%q, %d, %d, %v) gives up", c.a, c.x, c.y, c.eq)
		}
	}
}

// There has to be room for what is assumed, ahead of its being tidied, and were it there already.
func TestAssumeWantsRoom(t *testing.T) {
	p := impl.Pair{A: 1, B: 2}
	for segs := range impl.MaxSpace + 1 {
		for n := range impl.MaxPure + 1 {
			for _, eq := range []bool{true, false} {
				for _, other := range []int{0, impl.MaxPure - segs} {
					a := chain(segs)
					if eq {
						a.Eqs, a.Nes = repeated(p, n), repeated(impl.Pair{A: 4, B: 5}, other)
					} else {
						a.Eqs, a.Nes = repeated(impl.Pair{A: 4, B: 5}, other), repeated(p, n)
					}
					checkAssume(t, a, 1, 2, eq)
					checkAssume(t, a, 1, 2, !eq)
					if _, ok := impl.Assume(a, 1, 2, eq); ok != (n+segs < impl.MaxPure) {
						t.Errorf("Assume(%s, %v) = %v", asnWord(a), eq, ok)
					}
				}
			}
		}
	}
	// Where it can't be, there has to be room, too.
	full := impl.Asn{Eqs: repeated(impl.Pair{A: 4, B: 4}, impl.MaxPure), Nes: pairs{p}}
	if l, ok := impl.Assume(full, 1, 2, true); ok || len(l) != 0 {
		t.Errorf("Assume(%s) = %v, %v", asnWord(full), l, ok)
	}
}

func TestAssumeRefusesTerms(t *testing.T) {
	for _, x := range wrongTerms {
		for _, y := range append([]int{0, 1, 15}, wrongTerms...) {
			for _, text := range []string{"emp", "a!a", "a..nil"} {
				for _, eq := range []bool{true, false} {
					for _, p := range (pairs{{A: x, B: y}, {A: y, B: x}}) {
						if l, ok := impl.Assume(mustRead(t, text), p.A, p.B, eq); ok || len(l) != 0 {
							t.Errorf("Assume(%q, %v) = %v, %v", text, p, l, ok)
						}
					}
				}
			}
		}
	}
	for x := range impl.Terms {
		for y := range impl.Terms {
			checkAssume(t, mustRead(t, "a=_1 b!_2 c>_3 d.._4"), x, y, true)
			checkAssume(t, mustRead(t, "a=_1 b!_2 c>_3 d.._4"), x, y, false)
		}
	}
}
