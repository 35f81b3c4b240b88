package tests

import (
	"slices"
	"testing"

	"loop.example/g00621/impl"
)

// framedTexts have what is ahead, a program, what is behind, and what stands beside both; its words may be in any order.
var framedTexts = []struct {
	pre, prog, post, extra string
	want                   int
}{
	{"emp", "", "emp", "emp", impl.VdHolds},
	{"a>nil", "free a", "emp", "d..e", impl.VdHolds},
	{"a>nil", "free a", "emp", "d=e d!c d>e e..c", impl.VdHolds},
	{"emp", "new a", "a>nil", "b..c c..d", impl.VdHolds},
	{"a>b", "c := [a] [a] := nil", "b=c a>nil", "d>e e>d", impl.VdHolds},
	{"a>_1 _1>nil", "b := [a] free a", "b>nil", "c..nil", impl.VdHolds}, // names ahead alone
	{"a..nil", "if a = nil { new a } { b := [a] free a a := b }", "a..nil", "c..d", impl.VdHolds},
	{"a!a", "free b", "b>c", "d>nil", impl.VdHolds},
	// What is beside it tells of what it does.
	{"emp", "b := [a]", "emp", "a>nil", impl.VdHolds},
	{"emp", "b := [a]", "b=c", "a>c", impl.VdHolds},
	{"a..nil", "b := [a] free a", "b..nil", "a!nil", impl.VdHolds},
	{"a..nil", "free a", "emp", "a=nil", impl.VdFault},
	{"b>nil", "free a", "emp", "a=b", impl.VdHolds},
	{"a..b b>nil", "b := b", "a..b b>nil", "emp", impl.VdHolds},
	{"a>b b>c", "d := a", "a..c", "c>nil", impl.VdHolds},
	{"a>b b>c", "d := a", "a..c", "emp", impl.VdPost},
	{"a>nil", "free b", "emp", "a>nil", impl.VdHolds}, // both are at one address: that is nowhere so
	{"a!b a>nil", "free c", "emp", "a=b", impl.VdHolds},
	// Extra that is empty: it is Verify alone.
	{"a..nil", dispose, "a=nil", "emp", impl.VdHolds},
	{"a>nil", "free a", "a=b", "emp", impl.VdPost},
	{"emp", "free a", "emp", "emp", impl.VdFault},
	// Each of Verify's verdicts.
	{"emp", "free a", "emp", "b>nil", impl.VdFault},
	{"a>nil", "free a free a", "emp", "b>nil", impl.VdFault},
	{"emp", "free a", "emp", "a>nil", impl.VdPost}, // it lets go what is beside it
	{"a>nil", "", "emp", "b>nil", impl.VdPost},
	{"a>nil", "free a", "a>nil", "b>nil", impl.VdPost},
	{"a..nil", dispose, "a=nil", "d>nil", impl.VdInv}, // an invariant tells of nothing beside it
	{"a..nil", dispose, "a=nil", "d=e", impl.VdPost},  // and what it does not tell is not known any more
	{"a..nil", dispose, "a=nil", "c..c", impl.VdHolds},
	{"a>nil", dispose, "emp", "d..nil", impl.VdInv},
	{"a..nil", "while a ! nil ( a..nil ) { b := [a] b := nil }", "a..nil", "c=d", impl.VdPost},
	{"a>nil", "while a ! nil ( d>nil a..nil ) { b := [a] free a a := b }", "a=nil", "d>nil", impl.VdHolds},
	{"a>nil b>nil c>nil", "new a new a", "emp", "d>nil e>nil", impl.VdGave},
	{"emp", "new a", "a>nil", "b>nil c>nil d>nil e>nil b..c", impl.VdHolds},
	{"emp", "new a free a", "emp", "b>nil c>nil d>nil e>nil b..c", impl.VdHolds},
	{"emp", "new a free a", "emp", "b>nil c>nil d>nil e>nil b..c c..d", impl.VdHolds}, // it has no case
	{"emp", fourCells, "emp", "c>nil d>nil", impl.VdHolds},
	{"emp", fourCells, "emp", "c>nil d>nil e>nil", impl.VdGave}, // too much
	{"emp", "new a if b = c { a := nil } { a := b }", "emp", "c..d", impl.VdPost},
	{"emp", fiveWays + " b := b", "emp", "c..d d..e e..nil", impl.VdHolds}, // of each way there are eight cases
	{"emp", fiveWays + " b := b if a = c { } { }", "emp", "c..d d..e e..nil", impl.VdGave},
	// Of the cases that where the segment ahead has nothing comes first, and fails; where it has something there is no fresh name.
	{"a!c b=d _9=_10 _1>_2 _3>_4 _5>_6 _7>_8 a..b", "free a", "emp", "c..d", impl.VdFault},
	{"a!c b=d _9=_10 _1>_2 _3>_4 _5>_6 _7>_8 c..d", "free a", "emp", "a..b", impl.VdGave},
	// Both are full of Eqs, and one more stands behind them till they are tidied.
	{times(6, "nil=nil"), "a := nil", "a=nil", times(6, "b=b"), impl.VdHolds},
	{"b>c", "a := [b]", "b>c", times(12, "d=d"), impl.VdHolds},
	{"b>c", "a := [b]", "a=c b>c", times(12, "d=d"), -1}, // behind it they are too many
	{times(6, "b=b"), "a := b", "a=c", times(6, "nil=nil"), impl.VdPost},
	{times(12, "nil=nil"), "a := nil", "a=nil", "b>nil", impl.VdHolds},
	// Extra has one of Changes, at either place in each of its lists.
	{"a>nil", "new d", "a>nil d>nil", "d>nil", -1},
	{"emp", "a := b", "emp", "a=c", -1},
	{"emp", "a := b", "emp", "c=a", -1},
	{"emp", "a := b", "emp", "a!c", -1},
	{"emp", "a := b", "emp", "c!a", -1},
	{"emp", "a := b", "emp", "a>c", -1},
	{"emp", "a := b", "emp", "c>a", -1},
	{"emp", "a := b", "emp", "a..c", -1},
	{"emp", "a := b", "emp", "c..a", -1},
	{"emp", "a := b", "emp", "b=c c!d d>e b=b b!b c..a", -1},
	{"emp", "a := b", "emp", "b=c c!d d>e b..b", impl.VdHolds},
	{"emp", "a := a", "emp", "a=a", -1},
	{"b>nil", "a := [b]", "b>nil", "a=c", -1},
	{"b>nil", "a := [b]", "b>nil", "c!a", -1},
	{"b>nil", "a := [b]", "b>nil", "d>b", impl.VdHolds},
	{"b>nil", "a := [b]", "b>nil", "a..a", -1},
	{"emp", "new a", "a>nil", "a!nil", -1},
	{"emp", "new a", "a>nil", "b..a", -1},
	{"emp", "a := b c := d e := nil", "emp", "b=d", impl.VdHolds},
	{"emp", "a := b c := d e := nil", "emp", "b=c", -1},
	{"emp", "a := b c := d e := nil", "emp", "e=d", -1},
	{"emp", "if b = c { d := b } { e := b }", "emp", "a=d", -1},
	{"emp", "if b = c { d := b } { e := b }", "emp", "a=e", -1},
	{"emp", "if b = c { d := b } { e := b }", "emp", "a=b a=c", impl.VdHolds},
	{"emp", "while b = c ( emp ) { if a = b { } { new d } }", "emp", "d!e", -1},
	// What is stored at, let go or asked for is no change.
	{"a>b", "[a] := c", "a>c", "a=d b!c c..e", impl.VdHolds},
	{"a>nil", "free a", "emp", "a!b", impl.VdHolds},
	{"emp", "if a = b { } { }", "emp", "a=b", impl.VdHolds},
	{"a=b", "while a = b ( a=b ) { }", "a!a", "a!c", impl.VdHolds},
	// One Star is false: the first, the second, or either.
	{"a>nil b>nil c>nil", "free a free b", "c>nil", "d>nil e>nil d..e", impl.VdHolds},
	{"a>nil b>nil c>nil", "free a free b", "c>nil", "d>nil e>nil d..e e..nil", -1},
	{"a>nil", "", "a>nil a>nil a>nil a>nil", "b..c c..d", impl.VdPost},
	{"a>nil", "", "a>nil a>nil a>nil a>nil", "b..c c..d d..e", -1},
	{"a!a", "", "a..b b..c c..d", "e..e e..e e..e", impl.VdHolds},
	{"a!a", "", "a..b b..c c..d", "e..e e..e e..e e..e", -1},
	{"a!a a..b b..c c..d", "", "emp", "e..e e..e e..e", impl.VdHolds},
	{"a!a a..b b..c c..d", "", "emp", "e..e e..e e..e e..e", -1},
	{"a!a a..b b..c c..d", "", "a..b b..c c..d", "e..e e..e e..e e..e", -1},
	// Extra is not Plain, though nothing else is wrong.
	{"emp", "", "emp", "_1=_1", -1},
	{"emp", "", "emp", "a!_1", -1},
	{"a!a", "", "emp", "a>_10", -1},
	{"a!a", "", "emp", "_5..nil", -1},
	{"_1>nil", "", "emp", "_1=a", -1},
	// Post is not Plain.
	{"emp", "", "_1=_1", "emp", -1},
	{"_1>nil", "", "_1>nil", "a=a", -1},
	{"a!a", "", "a>_1", "a=a", -1},
	// Some of these at once, and beside what Verify would not take for right.
	{"emp", "free a", "_1=a", "b=_2", -1},
	{"emp", "a := b free a", "emp", "a=_1", -1},
	{"emp", "a := b free a", "a=_1", "a=c", -1},
	{"emp", "free a", "emp", "_1>nil", -1},
	{"a>nil b>nil c>nil", "free d a := nil", "emp", "a>nil e>nil e>nil e>nil", -1},
}

// fiveWays are as many as a, b and nil can be alike.
const fiveWays = "if a = b { } { } if a = nil { } { } if b = nil { } { }"

func TestFramedKnownOnes(t *testing.T) {
	for _, c := range framedTexts {
		pre, prog, post := proved(t, c.pre, c.prog, c.post)
		extra := anyOrder(t, c.extra)
		if v := checkFramed(t, pre, prog, post, extra); v != c.want {
			t.Errorf("Framed(%q, %q, %q, %q) = %d, not %d", c.pre, c.prog, c.post, c.extra, v, c.want)
		}
		if v := checkFramed(t, pre, prog, post, impl.Asn{}); v != impl.Verify(pre, prog, post) {
			t.Errorf("Framed(%q, %q, %q) with nothing = %d", c.pre, c.prog, c.post, v)
		}
	}
}

// Eqs and Nes are just enough, and one too many, on each side.
func TestFramedLimits(t *testing.T) {
	same, other := impl.Pair{A: 2, B: 2}, impl.Pair{A: 1, B: 0}
	eqs := func(n int) impl.Asn { return impl.Asn{Eqs: repeated(same, n)} }
	nes := func(n int) impl.Asn { return impl.Asn{Nes: repeated(other, n)} }
	seg := impl.Pair{A: 3, B: 3}
	for _, c := range []struct {
		pre, post, extra impl.Asn
		want             int
	}{
		{eqs(5), eqs(5), eqs(7), impl.VdHolds},
		{eqs(6), eqs(5), eqs(7), -1}, // the first Star alone
		{eqs(5), eqs(6), eqs(7), -1}, // the second alone
		{eqs(6), eqs(6), eqs(7), -1},
		{eqs(12), eqs(12), eqs(0), impl.VdHolds},
		{eqs(12), eqs(0), eqs(1), -1},
		{eqs(0), eqs(12), eqs(1), -1},
		{eqs(0), eqs(0), eqs(12), impl.VdHolds},
		{nes(5), nes(5), nes(7), impl.VdHolds},
		{nes(6), nes(5), nes(7), -1},
		{nes(5), nes(6), nes(7), -1},
		{nes(0), nes(12), nes(1), -1},
		{nes(12), nes(0), nes(1), -1},
		{eqs(12), nes(12), eqs(0), impl.VdPost},
		// There is no room for the first, though there is for each.
		{eqs(5), eqs(5), impl.Asn{Eqs: repeated(same, 6), Segs: pairs{seg}}, impl.VdHolds},
		{eqs(6), eqs(5), impl.Asn{Eqs: repeated(same, 6), Segs: pairs{seg}}, -1},
		{impl.Asn{Segs: pairs{seg}}, impl.Asn{}, eqs(11), impl.VdHolds},
		{impl.Asn{Segs: pairs{seg}}, impl.Asn{}, eqs(12), -1},
		{eqs(11), eqs(11), impl.Asn{Segs: pairs{seg}}, impl.VdHolds},
		{eqs(12), eqs(11), impl.Asn{Segs: pairs{seg}}, -1},
		{impl.Asn{Segs: pairs{seg}}, nes(1), nes(11), impl.VdHolds},
		{impl.Asn{Segs: pairs{seg}}, nes(1), nes(12), -1}, // both are too much
		{impl.Asn{Segs: pairs{seg}}, impl.Asn{}, nes(12), -1},
		{nes(11), nes(12), impl.Asn{Segs: pairs{seg}}, impl.VdHolds}, // the second needs no room
		{nes(12), nes(11), impl.Asn{Segs: pairs{seg}}, -1},
		// There is no room for pre alone.
		{impl.Asn{Eqs: repeated(same, 12), Segs: pairs{seg}}, impl.Asn{}, impl.Asn{}, -1},
		{impl.Asn{Nes: repeated(other, 12), Segs: pairs{seg}}, impl.Asn{}, eqs(1), -1},
		{impl.Asn{Nes: repeated(impl.Pair{}, 7), Segs: repeated(seg, 6)}, eqs(0), eqs(0), -1},
		{impl.Asn{Nes: repeated(impl.Pair{}, 6), Segs: repeated(seg, 6)}, eqs(0), eqs(0), impl.VdHolds},
	} {
		for _, l := range []cmds{nil, mustProg(t, "d := e"), mustProg(t, "if d = e { } { new d free d }")} {
			if v := checkFramed(t, c.pre, l, c.post, c.extra); v != c.want && len(l) < 1 {
				t.Errorf("Framed(%s; %s; %s; %s) = %d, not %d", asnWord(c.pre), progWord(l), asnWord(c.post), asnWord(c.extra), v, c.want)
			}
		}
	}
}

func TestFramedRefuses(t *testing.T) {
	good := mustRead(t, "a>nil")
	for _, bad := range wrongAsns() {
		for _, l := range []cmds{nil, {freeA}, mustProg(t, "while a = b ( emp ) { }")} {
			u, v, w := impl.Framed(bad, l, good, impl.Asn{}), impl.Framed(good, l, bad, impl.Asn{}), impl.Framed(good, l, impl.Asn{}, bad)
			if u != -1 || v != -1 || w != -1 {
				t.Errorf("Framed of %s = %d, %d, %d", describe(bad), u, v, w)
			}
		}
		if v := impl.Framed(bad, wrongProgs()[0], bad, bad); v != -1 {
			t.Errorf("Framed of %s = %d", describe(bad), v)
		}
	}
	for _, l := range slices.Concat(wrongProgs(), endlessProgs()) {
		for _, extra := range []impl.Asn{{}, mustRead(t, "a=b"), mustRead(t, "d>e"), mustRead(t, "_1>e")} {
			if v := impl.Framed(good, l, good, extra); v != -1 {
				t.Errorf("Framed of a wrong program beside %s = %d", asnWord(extra), v)
			}
		}
	}
	_, without := noRoom(t, "a!nil a..nil")
	for _, bad := range without {
		if v := checkFramed(t, bad, nil, good, mustRead(t, "b>nil")); v != -1 {
			t.Errorf("Framed(%s ahead) = %d", asnWord(bad), v)
		}
		if v := checkFramed(t, mustRead(t, "b!b"), nil, bad, mustRead(t, "b>nil")); v != impl.VdHolds {
			t.Errorf("Framed(%s behind) = %d", asnWord(bad), v)
		}
		if v := checkFramed(t, good, nil, good, bad); v != -1 {
			t.Errorf("Framed(%s beside) = %d", asnWord(bad), v)
		}
	}
}

func TestFramedByAnotherWay(t *testing.T) {
	var verdicts [6]int
	drawnFrames(t, 6000, func(d *draw, x triple, extra impl.Asn) {
		verdicts[1+checkFramed(t, x.pre, x.prog, x.post, extra)]++
	})
	all, progs := drawnAsns(400), drawnProgs(400)
	for i, a := range all {
		checkFramed(t, a, progs[i], all[(i*7+3)%len(all)], all[(i*5+1)%len(all)])
		checkFramed(t, impl.Asn{Eqs: a.Eqs[:min(len(a.Eqs), 5)]}, progs[i], impl.Asn{}, mapped(all[(i*5+1)%len(all)], func(t int) int { return t % 6 }))
	}
	if slices.Min(verdicts[:]) < 50 {
		t.Fatalf("verdicts from -1 on: %v", verdicts)
	}
}
