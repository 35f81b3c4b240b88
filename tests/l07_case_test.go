package tests

import (
	"fmt"
	"slices"
	"testing"

	"loop.example/g00621/impl"
)

// Each is what is opened, a term, what is exposed and the place of its cell; nothing and -1: there is none.
var exposeTexts = []struct {
	open  string
	term  int
	want  string
	place int
}{
	{"a>b", 1, "a>b", 0},
	{"a>b", 2, "", -1},
	{"a>b", 0, "", -1},
	{"emp", 1, "", -1},
	{"a>b c>d e>nil", 3, "a>b c>d e>nil", 1},
	{"a>b c>d e>nil", 5, "a>b c>d e>nil", 2},
	{"_1>b", 6, "_1>b", 0},
	// By the class, not by the term alone.
	{"a=b b>c", 1, "a=b b>c", 0},
	{"a=b d=e e>nil b>c", 1, "a=b d=e e>nil b>c", 1},
	{"a=b b=c c=_1 d>nil _1>d", 1, "a=b b=c c=_1 d>nil _1>d", 1},
	{"a=b b!c b..c", 1, "a=b b!c b>_1 _1..c", 0},
	{"a=nil b>c", 1, "", -1},
	// Where one of the class is B there is none.
	{"a=b c>b", 1, "", -1},
	{"c!b c..b", 2, "", -1},
	// A segment is unfolded: its cell stands behind Cells, the rest behind Segs.
	{"a!nil a..nil", 1, "a!nil a>_1 _1..nil", 0},
	{"a!nil b>c a..nil", 1, "a!nil b>c a>_1 _1..nil", 1},
	{"a!nil b!c b..c a..nil", 1, "a!nil b!c a>_1 b..c _1..nil", 0},
	{"a!nil b!c a..nil b..c", 1, "a!nil b!c a>_1 b..c _1..nil", 0},
	{"a!nil b!c a..nil b..c", 2, "a!nil b!c b>_1 a..nil _1..c", 0},
	{"b!c d>e e>_1 a>nil b..c", 2, "b!c d>e e>_1 a>nil b>_2 _2..c", 3},
	{"a!_1 _2>nil a.._1", 1, "a!_1 _2>nil a>_3 _3.._1", 1},
	// The cell that begins there is asked for, not one ahead of it.
	{"c!d a>b c..d", 1, "c!d a>b c..d", 0},
	// It is not opened, or it is Contra.
	{"a..nil", 1, "", -1},
	{"b>c a..nil", 2, "", -1},
	{"a>b a>c", 1, "", -1},
	{"a!a b>c", 2, "", -1},
	{"a=nil a>b", 1, "", -1},
	{"b=c b!c a>nil b..c", 1, "", -1},
}

func TestExposeKnownOnes(t *testing.T) {
	for _, c := range exposeTexts {
		open := mustRead(t, c.open)
		got, i, ok := impl.Expose(open, c.term)
		if ok != (c.want != "") || i != c.place || ok && asnWord(got) != c.want || !ok && !isZero(got) {
			t.Errorf("Expose(%q, %d) = %q, %d, %v", c.open, c.term, asnWord(got), i, ok)
		}
		for term := -1; term <= impl.Terms; term++ {
			checkExpose(t, open, term)
		}
	}
}

// full has all but so many of the names, and is opened; beside that there is nothing in it.
func full(but int) impl.Asn {
	a := allNames()
	a.Eqs = a.Eqs[:len(a.Eqs)-but]
	return a
}

func with(t *testing.T, a impl.Asn, text string) impl.Asn {
	t.Helper()
	both, ok := impl.Star(a, mustRead(t, text))
	if !ok {
		t.Fatalf("%s and %q are too much", asnWord(a), text)
	}
	return both
}

// brim has MaxSpace pieces at b, c and names, of which the last is the piece that is told; none begins at another variable.
func brim(t *testing.T, last string) impl.Asn {
	t.Helper()
	return with(t, mustRead(t, "b>nil c>nil _1>nil _2>nil _3>nil"), last)
}

// What can't be unfolded: there is no fresh name, or there are MaxSpace pieces.
func TestExposeCannotUnfold(t *testing.T) {
	for _, c := range []struct {
		a    impl.Asn
		term int
		ok   bool
	}{
		{with(t, full(0), "a!nil a..nil"), 1, false},
		{with(t, full(1), "a!nil a..nil"), 1, true},
		{with(t, full(0), "a>nil"), 1, true},
		{brim(t, "a!nil a..nil"), 1, false},
		{brim(t, "a>nil"), 1, true},
		{brim(t, "a!nil a..nil"), 2, true},
		{mustRead(t, "a!nil b>nil c>nil _1>nil _2>nil a..nil"), 1, true},
	} {
		got, i, ok := impl.Expose(c.a, c.term)
		if ok != c.ok || !ok && (i != -1 || !isZero(got)) {
			t.Errorf("Expose(%s, %d) = %s, %d, %v", asnWord(c.a), c.term, asnWord(got), i, ok)
		}
		for term := range impl.Terms {
			checkExpose(t, c.a, term)
		}
	}
}

func TestExposeRefuses(t *testing.T) {
	refuses := func(a impl.Asn, term int) {
		t.Helper()
		if got, i, ok := impl.Expose(a, term); ok || i != -1 || !isZero(got) {
			t.Errorf("Expose(%s, %d) = %s, %d, %v", describe(a), term, describe(got), i, ok)
		}
	}
	for _, a := range wrongAsns() {
		for term := range 3 {
			refuses(a, term)
		}
		refuses(a, -1)
	}
	for _, x := range wrongTerms {
		refuses(mustRead(t, "a>b"), x)
		refuses(mustRead(t, "a!nil a..nil"), x)
		refuses(impl.Asn{}, x)
	}
}

// Each is a case, a plain command, and what comes of it, or fault, or gave.
var caseTexts = []struct{ open, cmd, want string }{
	// X is Y, with a fresh name where X stood.
	{"emp", "a := b", "a=b"},
	{"emp", "a := nil", "a=nil"},
	{"a=c", "a := b", "_1=c a=b"},
	{"a=c", "b := a", "a=c b=a"},
	{"b=c", "b := a", "_1=c b=a"},
	{"a>b", "a := nil", "a=nil _1>b"},
	{"a>b _1>a", "a := b", "a=b _2>b _1>_2"},
	{"a=c d=a a!b e!a e>a a..b", "a := e", "_1=c d=_1 a=e _1!b e!_1 e>_1 _1..b"},
	{"_1=_3 a!c", "a := b", "_1=_3 a=b _2!c"},
	// Y is X.
	{"emp", "a := a", "a=_1"},
	{"a=c", "a := a", "_1=c a=_1"},
	{"a>a", "a := a", "a=_1 _1>_1"},
	{"_1>a", "a := a", "a=_2 _1>_2"},
	// It is not X, but of its class.
	{"a=b", "a := b", "_1=b a=b"},
	// CmNew.
	{"emp", "new a", "a>nil"},
	{"a>b", "new a", "_1>b a>nil"},
	{"a=b", "new b", "a=_1 b>nil"},
	{"b>c d>a", "new a", "b>c d>_1 a>nil"},
	{"a!b a..b", "new b", "a!_1 b>nil a.._1"},
	// CmLoad.
	{"a>b", "c := [a]", "c=b a>b"},
	{"a>nil", "c := [a]", "c=nil a>nil"},
	{"a>c", "b := [a]", "b=c a>c"},
	{"b>nil a>_1", "c := [a]", "c=_1 b>nil a>_1"},
	{"a=c c>b", "d := [a]", "a=c d=b c>b"},
	// Y is X.
	{"a>b", "a := [a]", "a=b _1>b"},
	{"a!nil a..nil", "a := [a]", "a=_1 _2!nil _2>_1 _1..nil"},
	// What is there, v, is X; and is not, though of its class.
	{"a>b", "b := [a]", "b=_1 a>_1"},
	{"a>a", "a := [a]", "a=_1 _1>_1"},
	{"a=b a>b", "b := [a]", "a=_1 b=_1 a>_1"},
	{"b=c a>c", "b := [a]", "_1=c b=c a>c"},
	{"d=e a!b a>b", "c := [a]", "d=e c=b a!b a>b"},
	// What is exposed has a name, and the fresh one is another.
	{"a!nil a..nil", "b := [a]", "b=_1 a!nil a>_1 _1..nil"},
	{"a!b a..b", "b := [a]", "b=_1 a!_2 a>_1 _1.._2"},
	{"b!nil d>e b..nil", "c := [b]", "c=_1 b!nil d>e b>_1 _1..nil"},
	// CmStore.
	{"a>b", "[a] := c", "a>c"},
	{"a>b", "[a] := a", "a>a"},
	{"a>b", "[a] := nil", "a>nil"},
	{"a>b c>d e>nil", "[c] := e", "a>b c>e e>nil"},
	{"a=b b>c", "[a] := d", "a=b b>d"},
	{"a!nil a..nil", "[a] := b", "a!nil a>b _1..nil"},
	{"a!nil c>d a..nil", "[a] := a", "a!nil c>d a>a _1..nil"},
	// CmFree.
	{"a>b", "free a", "emp"},
	{"a>b c>d e>nil", "free c", "a>b e>nil"},
	{"a=b c>d b>c", "free a", "a=b c>d"},
	{"a!nil a..nil", "free a", "a!nil _1..nil"},
	{"a!b c>d a..b", "free a", "a!b c>d _1..b"},
	// There is no such piece.
	{"emp", "b := [a]", "fault"},
	{"emp", "[a] := b", "fault"},
	{"emp", "free a", "fault"},
	{"a>b", "c := [b]", "fault"},
	{"a>b", "a := [b]", "fault"},
	{"b>a", "a := [a]", "fault"},
	{"a>b", "[b] := a", "fault"},
	{"a>b", "free b", "fault"},
	{"a=nil b>c", "free a", "fault"},
	{"a!nil b>c", "free a", "fault"},
	{"a!nil _1!nil _1..nil", "free a", "fault"},
	// It is not tidied.
	{"a=a _1=b b=_1 b!_2 b!_2", "a := c", "_3=_3 _1=b b=_1 a=c b!_2 b!_2"},
	{"a=a a=a _5!b a>c", "free a", "a=a a=a _5!b"},
	{"a=a a=a _5!b a>c", "[a] := b", "a=a a=a _5!b a>b"},
	{"a=a _5!b", "new c", "a=a _5!b c>nil"},
}

func verdictOf(word string) (int, bool) {
	i := slices.Index([]string{"", "fault", "post", "inv", "gave"}, word)
	return i, i > 0
}

func TestDoCaseKnownOnes(t *testing.T) {
	for _, c := range caseTexts {
		open, cmd := mustRead(t, c.open), mustCmd(t, c.cmd)
		want, fails := verdictOf(c.want)
		got, code := impl.DoCase(open, cmd)
		if fails && (code != want || !isZero(got)) || !fails && (code != impl.VdHolds || asnWord(got) != c.want) {
			t.Errorf("DoCase(%q, %q) = %q, %d, not %q", c.open, c.cmd, asnWord(got), code, c.want)
		}
		checkDoCase(t, open, cmd)
	}
}

// No fresh name, no such piece, and what can't be unfolded: which one counts.
func TestDoCaseGivesUp(t *testing.T) {
	for _, c := range []struct {
		open impl.Asn
		cmd  string
		want int
	}{
		// There is no fresh name: be X in it or not.
		{full(0), "a := b", impl.VdGave},
		{full(0), "a := a", impl.VdGave},
		{full(0), "new a", impl.VdGave},
		{full(1), "a := b", impl.VdHolds},
		{full(1), "new a", impl.VdHolds},
		{with(t, full(0), "a>b"), "c := [a]", impl.VdGave},
		{with(t, full(1), "a>b"), "c := [a]", impl.VdHolds},
		// CmStore and CmFree want none at a cell.
		{with(t, full(0), "a>b"), "[a] := c", impl.VdHolds},
		{with(t, full(0), "a>b"), "free a", impl.VdHolds},
		// One is unfolded by the last name: CmLoad wants another one.
		{with(t, full(1), "a!nil a..nil"), "[a] := c", impl.VdHolds},
		{with(t, full(1), "a!nil a..nil"), "free a", impl.VdHolds},
		{with(t, full(1), "a!nil a..nil"), "c := [a]", impl.VdGave},
		{with(t, full(2), "a!nil a..nil"), "c := [a]", impl.VdHolds},
		{with(t, full(0), "a!nil a..nil"), "[a] := c", impl.VdGave},
		{with(t, full(0), "a!nil a..nil"), "free a", impl.VdGave},
		{with(t, full(0), "a!nil a..nil"), "c := [a]", impl.VdGave},
		// That there is no such piece counts ahead of that there is no name.
		{full(0), "c := [a]", impl.VdFault},
		{full(0), "[a] := c", impl.VdFault},
		{full(0), "free a", impl.VdFault},
		{with(t, full(0), "b!nil b..nil"), "b := [a]", impl.VdFault},
		// There are MaxSpace pieces: what is unfolded gives up, a cell does not.
		{brim(t, "a!nil a..nil"), "d := [a]", impl.VdGave},
		{brim(t, "a!nil a..nil"), "[a] := d", impl.VdGave},
		{brim(t, "a!nil a..nil"), "free a", impl.VdGave},
		{brim(t, "a!nil a..nil"), "d := [b]", impl.VdHolds},
		{brim(t, "a!nil a..nil"), "[b] := d", impl.VdHolds},
		{brim(t, "a!nil a..nil"), "free b", impl.VdHolds},
		{brim(t, "a!nil a..nil"), "d := a", impl.VdHolds},
		{brim(t, "a!nil a..nil"), "d := [e]", impl.VdFault},
		{brim(t, "a!nil a..nil"), "[d] := e", impl.VdFault},
		{brim(t, "a!nil a..nil"), "free d", impl.VdFault},
		{mustRead(t, "a!nil b>nil c>nil _1>nil _2>nil a..nil"), "d := [a]", impl.VdHolds},
	} {
		got, code := impl.DoCase(c.open, mustCmd(t, c.cmd))
		if code != c.want || code != impl.VdHolds && !isZero(got) {
			t.Errorf("DoCase(%s, %q) = %s, %d, not %d", asnWord(c.open), c.cmd, asnWord(got), code, c.want)
		}
		checkDoCase(t, c.open, mustCmd(t, c.cmd))
		// The same comes of a state that is this one case, if it is then put.
		if v := c.want; v != impl.VdHolds {
			if l, code := checkExecOne(t, c.open, mustCmd(t, c.cmd)); code != v || len(l) != 0 {
				t.Errorf("ExecOne(%s, %q) = %d", asnWord(c.open), c.cmd, code)
			}
		}
	}
}

// What is done to a case is told even where that is more than an assertion can have; nothing takes it for one, but it is put once it is tidied.
func TestDoCaseOfWhatIsFull(t *testing.T) {
	for _, c := range []struct {
		a    impl.Asn
		cmd  string
		kind int
		want string
	}{
		{impl.Asn{Eqs: repeated(impl.Pair{A: 2, B: 2}, impl.MaxPure)}, "a := c", 0, "a=c"},
		{impl.Asn{Eqs: repeated(impl.Pair{A: 2, B: 2}, impl.MaxPure), Cells: pairs{{A: 2, B: 3}}}, "a := [b]", 0, "a=c b>c"},
		{brim(t, "a>nil"), "new d", 2, "gave"},
	} {
		got, code := impl.DoCase(c.a, mustCmd(t, c.cmd))
		was, is := listsOf(c.a), listsOf(got)
		if code != impl.VdHolds || impl.AsnOk(got) || len(is[c.kind]) != len(was[c.kind])+1 {
			t.Errorf("DoCase(%s, %q) = %s, %d", asnWord(c.a), c.cmd, describe(got), code)
		}
		if l, ok := impl.Put(nil, got); ok || len(l) != 0 {
			t.Errorf("Put(%s) = %v", describe(got), l)
		}
		if tidy, ok := impl.Tidy(got); ok || !isZero(tidy) {
			t.Errorf("Tidy(%s) = %s", describe(got), describe(tidy))
		}
		checkDoCase(t, c.a, mustCmd(t, c.cmd))
		if l, v := checkExecOne(t, c.a, mustCmd(t, c.cmd)); outcome(l, v) != c.want {
			t.Errorf("ExecOne(%s, %q) = %v, %d", asnWord(c.a), c.cmd, l, v)
		}
	}
}

func TestDoCaseRefuses(t *testing.T) {
	refuses := func(a impl.Asn, c impl.Cmd) {
		t.Helper()
		if got, code := impl.DoCase(a, c); code != -1 || !isZero(got) {
			t.Errorf("DoCase(%s, %+v) = %s, %d", describe(a), c, describe(got), code)
		}
		if l, code := impl.ExecOne(a, c); roomBy(a) && impl.Opened(a) && !impl.Contra(a) && (code != -1 || len(l) != 0) {
			t.Errorf("ExecOne(%s, %+v) = %v, %d", describe(a), c, l, code)
		}
	}
	opens := []impl.Asn{{}, mustRead(t, "a>b b>nil"), mustRead(t, "a!nil a..nil")}
	for i, c := range wrongCmds() {
		refuses(opens[i%len(opens)], c)
	}
	for _, c := range oneOfEach()[impl.CmIf:] {
		for _, a := range opens {
			refuses(a, c)
		}
	}
	// Those that are fine but too deep, too many, or without an end.
	for _, l := range slices.Concat(wrongProgs(), endlessProgs()) {
		refuses(opens[1], impl.Cmd{Kind: impl.CmFree, X: 1, A: l})
		refuses(opens[1], impl.Cmd{Kind: impl.CmSet, X: 1, B: l})
	}
	bad := append(wrongAsns(), mustReadAll(t, "a..nil", "a!nil a..nil b..nil", "a!a", "a>b a>c", "nil>a", "a=nil a>b", "a=b a!b a..b")...)
	for _, a := range bad {
		for _, c := range oneOfEach() {
			refuses(a, c)
		}
	}
}

func TestDoCaseTakesPlainCommands(t *testing.T) {
	for _, c := range oneOfEach()[:impl.CmIf] {
		if _, code := impl.DoCase(mustRead(t, "a>b b>a"), c); code != impl.VdHolds {
			t.Errorf("DoCase(%+v) = %d", c, code)
		}
		if _, code := impl.ExecOne(mustRead(t, "a>b b>a"), c); code != impl.VdHolds {
			t.Errorf("ExecOne(%+v) = %d", c, code)
		}
	}
}

// many has so many states that differ.
func many(t *testing.T, n int) asns {
	t.Helper()
	var l asns
	for i := range n {
		l = append(l, mustRead(t, fmt.Sprintf("%s!%s", termWord(i%6), termWord((i/6)%6))))
	}
	return l
}

func TestPutKnownOnes(t *testing.T) {
	for _, c := range []struct {
		states []string
		a      string
		want   string
	}{
		{nil, "emp", "emp"},
		{nil, "a>b", "a>b"},
		{[]string{"a>b"}, "c>d", "a>b; c>d"},
		{[]string{"a>b", "c..d"}, "emp", "a>b; c..d; emp"},
		{[]string{"a>b"}, "a>b", "a>b; a>b"},
		// It is tidied; the others are not.
		{[]string{"_1=a a=a _2!b"}, "_1=a a=a _2!b _1>b", "_1=a a=a _2!b; a>b"},
		{[]string{"_1=a", "a=a"}, "a=a", "_1=a; a=a; emp"},
		// It need not be possible.
		{[]string{"a!a"}, "a!a", "a!a; a!a"},
		{nil, "nil>a nil>a", "nil>a nil>a"},
	} {
		l, ok := impl.Put(mustReadAll(t, c.states...), mustRead(t, c.a))
		if !ok || wordsOfAll(l) != c.want {
			t.Errorf("Put(%q, %q) = %q, %v", c.states, c.a, wordsOfAll(l), ok)
		}
		checkPut(t, mustReadAll(t, c.states...), mustRead(t, c.a))
	}
}

// Just MaxStates, and one more.
func TestPutTakesForty(t *testing.T) {
	a := mustRead(t, "a=a a>nil")
	for n := range 45 {
		l := many(t, n)
		got, ok := impl.Put(l, a)
		switch {
		case n < 40 && (!ok || wordsOfAll(got) != wordsOfAll(append(many(t, n), mustRead(t, "a>nil")))):
			t.Errorf("Put to %d: %d of them, %v", n, len(got), ok)
		case n == 40 && (ok || !sameAsns(got, l)): // they are as they are
			t.Errorf("Put to %d: %d of them, %v", n, len(got), ok)
		case n > 40 && (ok || len(got) != 0):
			t.Errorf("Put to %d: %d of them, %v", n, len(got), ok)
		}
		checkPut(t, l, a)
	}
	if l, ok := impl.Put(slices.Repeat(many(t, 1), 5000), a); ok || len(l) != 0 {
		t.Error("Put to 5000")
	}
}

// There is room, or is not, once it is tidied.
func TestPutWantsRoom(t *testing.T) {
	states := mustReadAll(t, "a=a", "b>c b..b")
	segs := func(n int) pairs { return repeated(impl.Pair{A: 1, B: 0}, n) }
	eqs := pairs{{A: 1, B: 2}, {A: 1, B: 3}, {A: 1, B: 4}, {A: 1, B: 5}, {A: 2, B: 3}, {A: 2, B: 4}, {A: 2, B: 5}, {A: 3, B: 4}, {A: 3, B: 5}, {A: 4, B: 5}, {A: 0, B: 1}, {A: 0, B: 2}}
	named := repeated(impl.Pair{A: 1, B: 6}, impl.MaxPure)
	for _, c := range []struct {
		a  impl.Asn
		ok bool
	}{
		{impl.Asn{Eqs: eqs}, true},
		{impl.Asn{Nes: eqs}, true},
		{impl.Asn{Eqs: eqs, Nes: eqs}, true},
		{impl.Asn{Eqs: eqs, Segs: segs(1)}, false},
		{impl.Asn{Nes: eqs, Segs: segs(1)}, false},
		{impl.Asn{Eqs: eqs[:11], Nes: eqs[:11], Segs: segs(1)}, true},
		{impl.Asn{Eqs: eqs[:6], Nes: eqs[:6], Segs: segs(6)}, true},
		{impl.Asn{Eqs: eqs[:7], Nes: eqs[:6], Segs: segs(6)}, false},
		{impl.Asn{Eqs: eqs[:6], Nes: eqs[:7], Segs: segs(6)}, false},
		{impl.Asn{Eqs: eqs, Nes: eqs, Cells: segs(6)}, true},
		// Only once it is tidied.
		{impl.Asn{Eqs: named, Segs: segs(6)}, true},
		{impl.Asn{Nes: named, Segs: segs(6)}, true},
		{impl.Asn{Eqs: repeated(eqs[0], 12), Nes: repeated(eqs[1], 12), Segs: segs(6)}, true},
		{impl.Asn{Eqs: append(slices.Clone(eqs[:11]), impl.Pair{A: 6, B: 6}), Segs: segs(1)}, true},
		{impl.Asn{Eqs: append(slices.Clone(eqs[:11]), eqs[0]), Segs: segs(1)}, true},
		{impl.Asn{Nes: append(slices.Clone(eqs[:11]), impl.Pair{A: 6, B: 1}), Segs: segs(1)}, true},
		{impl.Asn{Nes: append(slices.Clone(eqs[:11]), impl.Pair{A: 6, B: 6}), Segs: segs(1)}, false},
	} {
		l, ok := impl.Put(states, c.a)
		if ok != c.ok || !ok && !sameAsns(l, states) || ok && len(l) != 3 {
			t.Errorf("Put(%s) = %q, %v", asnWord(c.a), wordsOfAll(l), ok)
		}
		checkPut(t, states, c.a)
		checkPut(t, nil, c.a)
	}
}

func TestPutRefuses(t *testing.T) {
	good := mustReadAll(t, "a>b", "c..d")
	for _, bad := range wrongAsns() {
		for _, c := range []struct {
			l asns
			a impl.Asn
		}{{good, bad}, {nil, bad}, {asns{bad}, good[0]}, {asns{good[0], bad}, good[0]}, {asns{bad, good[0]}, good[0]}, {append(many(t, 39), bad), good[0]}, {many(t, 40), bad}} {
			if l, ok := impl.Put(c.l, c.a); ok || len(l) != 0 {
				t.Errorf("Put(%d of them, %s) = %v, %v", len(c.l), describe(c.a), l, ok)
			}
		}
	}
	// States for which there is no room are as they are.
	none := impl.Asn{Eqs: repeated(impl.Pair{A: 1, B: 1}, 12), Segs: pairs{{A: 1, B: 0}}}
	if l, ok := impl.Put(asns{none}, good[0]); !ok || len(l) != 2 || !sameAsn(l[0], none) {
		t.Errorf("Put behind one without room = %v, %v", l, ok)
	}
}
