package tests

import (
	"math"
	"slices"
	"strings"
	"testing"

	"loop.example/g00621/impl"
)

func TestCasesKnownOnes(t *testing.T) {
	for text, want := range map[string]string{
		"emp":     "emp",
		"a=b":     "a=b",
		"a!b a>b": "a!b a>b",
		"a..b":    "a=b; a!b a..b",
		"b..a":    "b=a; b!a b..a",
		"a..nil":  "a=nil; a!nil a..nil",
		// Nothing ahead of something, the first segment the slowest.
		"a..b b..nil": "a=b b=nil; a=b b!nil b..nil; b=nil a!b a..b; a!b b!nil a..b b..nil",
		"b..nil a..b": "b=nil a=b; b=nil a!b a..b; a=b b!nil b..nil; b!nil a!b b..nil a..b",
		"a..b c..d e..nil": "a=b c=d e=nil; a=b c=d e!nil e..nil; a=b e=nil c!d c..d; a=b c!d e!nil c..d e..nil; " +
			"c=d e=nil a!b a..b; c=d a!b e!nil a..b e..nil; e=nil a!b c!d a..b c..d; a!b c!d e!nil a..b c..d e..nil",
		// Behind what is there already, and once more if it is.
		"c=d d!e e>nil a..b": "c=d a=b d!e e>nil; c=d d!e a!b e>nil a..b",
		"a!b a..b":           "a!b a!b a..b",
		"b!a a..b":           "b!a a!b a..b",
		"a=b a..b":           "a=b a=b",
		// Those that are contrary are left out, and the others stay in order.
		"a..a":             "a=a",
		"nil..nil":         "nil=nil",
		"nil..a":           "nil=a",
		"a>nil a..b":       "a=b a>nil",
		"a..b a..b":        "a=b a=b",
		"a..nil a..b":      "a=nil a=b; a=b a!nil a..nil",
		"a..b b..a":        "a=b b=a; a!b b!a a..b b..a",
		"a!c a..b c..b":    "a=b a!c c!b c..b; c=b a!c a!b a..b; a!c a!b c!b a..b c..b",
		"b!nil a>b b..nil": "b!nil b!nil a>b b..nil",
		// All of them are.
		"a!a":                  "",
		"nil!nil a..b":         "",
		"a!a b..c d..e":        "",
		"nil>a":                "",
		"a=nil a>b":            "",
		"a>b a>c d..e":         "",
		"a!b a>nil a..b":       "",
		"a=b b=c a!c":          "",
		"a!b a!c a..b a..c":    "",
		"_9=_10 _9>a _10>a":    "",
		"a=b a!nil a>b b..nil": "",
	} {
		a := mustRead(t, text)
		l, ok := impl.Cases(a)
		if got := strings.Join(asnWords(l), "; "); !ok || got != want {
			t.Errorf("Cases(%q) = %q, %v", text, got, ok)
		}
		if n, ok := impl.CountCases(a); !ok || n != len(l) {
			t.Errorf("CountCases(%q) = %d, %v", text, n, ok)
		}
		if is, ok := impl.Possible(a); !ok || is != (want != "") {
			t.Errorf("Possible(%q) = %v, %v", text, is, ok)
		}
	}
}

// chain has as many segments as there may be, none of which hinders another one.
func chain(n int) impl.Asn {
	var a impl.Asn
	for i := range n {
		a.Segs = append(a.Segs, impl.Pair{A: i + 1, B: i + 2})
	}
	return a
}

func TestCasesOfChains(t *testing.T) {
	for n := range impl.MaxSpace + 1 {
		a := chain(n)
		l, ok := impl.Cases(a)
		if !ok || len(l) != 1<<n {
			t.Fatalf("Cases(%s): %d, %v", asnWord(a), len(l), ok)
		}
		for number, c := range l {
			if !sameAsn(c, choiceBy(a, number)) {
				t.Fatalf("Cases(%s): %d is %s", asnWord(a), number, asnWord(c))
			}
		}
		checkCases(t, a)
	}
	full := chain(impl.MaxSpace)
	full.Segs = append(full.Segs, impl.Pair{A: 14, B: 15})
	checkRefused(t, full)
}

func checkNoRoom(t *testing.T, a impl.Asn) {
	t.Helper()
	if l, ok := impl.Cases(a); ok || len(l) != 0 {
		t.Errorf("Cases(%s) = %v, %v", describe(a), l, ok)
	}
	if is, ok := impl.Possible(a); ok || is {
		t.Errorf("Possible(%s) = %v, %v", describe(a), is, ok)
	}
	if n, ok := impl.CountCases(a); ok || n != 0 {
		t.Errorf("CountCases(%s) = %d, %v", describe(a), n, ok)
	}
	if s, ok := impl.Witness(a); ok || !isZeroState(s) {
		t.Errorf("Witness(%s) = %s, %v", describe(a), describeState(s), ok)
	}
	for _, s := range []impl.State{{}, {Terms: termsWith(), Heap: heapWith()}, {Terms: termsWith(1, 2), Heap: heapWith(2)}} {
		if i := impl.CaseOf(s, a); i != -1 {
			t.Errorf("CaseOf(%s) = %d", describe(a), i)
		}
	}
	for seg := -1; seg <= len(a.Segs); seg++ {
		if x, y, ok := impl.Split(a, seg); ok || !isZero(x) || !isZero(y) {
			t.Errorf("Split(%s, %d) = %s, %s, %v", describe(a), seg, describe(x), describe(y), ok)
		}
	}
}

// checkRefused takes what is not AsnOk: nothing at all is answered about it.
func checkRefused(t *testing.T, a impl.Asn) {
	t.Helper()
	checkNoRoom(t, a)
	for seg := -1; seg <= min(len(a.Segs), impl.MaxSpace+1); seg++ {
		if u, ok := impl.Unfold(a, seg); ok || !isZero(u) {
			t.Errorf("Unfold(%s, %d) = %s, %v", describe(a), seg, describe(u), ok)
		}
		for cell := -1; cell <= min(len(a.Cells), impl.MaxSpace+1); cell++ {
			if f, ok := impl.Fold(a, cell, seg); ok || !isZero(f) {
				t.Errorf("Fold(%s, %d, %d) = %s, %v", describe(a), cell, seg, describe(f), ok)
			}
		}
	}
	for _, s := range []impl.State{{}, {Terms: termsWith(), Heap: heapWith()}, {Terms: termsWith(1, 2), Heap: heapWith(2)}} {
		if l := impl.Lengths(s, a); len(l) != 0 {
			t.Errorf("Lengths(%s) = %v", describe(a), l)
		}
	}
}

func TestCasesRefuseAssertions(t *testing.T) {
	for _, a := range wrongAsns() {
		checkRefused(t, a)
	}
	// These would be answered, but for what is wrong with them.
	for _, x := range wrongTerms {
		p, bad := impl.Pair{A: 1, B: impl.Nil}, impl.Pair{A: x, B: 3}
		for k := range kinds {
			l := [kinds]pairs{nil, {p}, {{A: 2, B: 1}}, {p}}
			l[k] = append(l[k], bad)
			checkRefused(t, asnOf(l))
		}
	}
	many := impl.Asn{Nes: pairs{{A: 1, B: 0}}, Cells: repeated(impl.Pair{A: 2, B: 1}, impl.MaxSpace), Segs: pairs{{A: 1, B: 0}}}
	checkRefused(t, many)
}

// Eqs, or Nes, together with Segs, of just MaxPure, and of one more.
func TestRoom(t *testing.T) {
	p := impl.Pair{A: 3, B: 3}
	other := impl.Pair{A: 4, B: 5}
	for segs := range impl.MaxSpace + 1 {
		a := chain(segs)
		a.Eqs, a.Nes = repeated(p, impl.MaxPure-segs), repeated(other, impl.MaxPure-segs)
		checkCases(t, a)
		if _, ok := impl.Cases(a); !ok {
			t.Errorf("no room for %s", asnWord(a))
		}
		for i, l := range []*pairs{&a.Eqs, &a.Nes} {
			b := a
			*[]*pairs{&b.Eqs, &b.Nes}[i] = append(slices.Clone(*l), (*l)[0])
			checkNoRoom(t, b)
			// The other one alone is not too many, either.
			b = impl.Asn{Segs: a.Segs}
			*[]*pairs{&b.Eqs, &b.Nes}[i] = slices.Clone(*l)
			checkCases(t, b)
			*[]*pairs{&b.Eqs, &b.Nes}[i] = append(slices.Clone(*l), (*l)[0])
			checkNoRoom(t, b)
		}
	}
	// Cells take no room.
	a := impl.Asn{Eqs: repeated(p, 7), Nes: repeated(other, 7), Cells: pairs{{A: 6, B: 7}}, Segs: chain(5).Segs}
	if n, ok := impl.CountCases(a); !ok || n != 16 {
		t.Errorf("CountCases(%s) = %d, %v", asnWord(a), n, ok)
	}
	checkCases(t, a)
}

// What there is no room for holds all the same, and can be unfolded and folded.
func TestWithoutRoomThereAreLengths(t *testing.T) {
	a := mustRead(t, "a!nil a>b b..nil")
	a.Eqs, a.Nes = repeated(impl.Pair{A: 3, B: 3}, impl.MaxPure), append(repeated(impl.Pair{A: 1, B: 3}, impl.MaxPure-1), impl.Pair{A: 2, B: 0})
	s := mustState(t, "a=4 b=2 2>1 1>3 3>0 4>2")
	checkNoRoom(t, a)
	if l := impl.Lengths(s, a); !slices.Equal(l, []int{3}) {
		t.Errorf("Lengths(%s) = %v", asnWord(a), l)
	}
	if _, ok := impl.Unfold(a, 0); !ok {
		t.Errorf("Unfold(%s)", asnWord(a))
	}
	if _, ok := impl.Fold(a, 0, 0); !ok {
		t.Errorf("Fold(%s)", asnWord(a))
	}
	checkCases(t, a)
}

// Each answer is as it is told apart from the program.
func TestCasesByAnotherWay(t *testing.T) {
	for _, a := range drawnAsns(1500) {
		checkCases(t, a)
	}
	for _, a := range smallAsns(t) {
		checkCases(t, a)
	}
	drawnRoom(t, 2000, func(_ *draw, _ impl.State, a impl.Asn, _ bool) { checkCases(t, a) })
	drawnKnown(t, 1000, func(_ *draw, _ impl.State, a impl.Asn, _ bool) { checkCases(t, a) })
}

// An assertion holds just where one of its cases does, and there just one of them does.
func checkOneCase(t *testing.T, s impl.State, a impl.Asn, l []impl.Asn) {
	t.Helper()
	var at []int
	for i, c := range l {
		if impl.Holds(s, c) {
			at = append(at, i)
		}
	}
	got := impl.CaseOf(s, a)
	if !impl.Holds(s, a) {
		if len(at) != 0 || got != -1 {
			t.Fatalf("%s does not hold in %s, but its cases %v, CaseOf = %d", asnWord(a), describeState(s), at, got)
		}
		return
	}
	if len(at) != 1 || got != at[0] {
		t.Fatalf("%s holds in %s, its cases %v, CaseOf = %d", asnWord(a), describeState(s), at, got)
	}
}

func TestOneOfTheCasesHolds(t *testing.T) {
	most := 0
	drawnRoom(t, 5000, func(_ *draw, s impl.State, a impl.Asn, held bool) {
		l, ok := impl.Cases(a)
		if !ok {
			t.Fatalf("Cases(%s)", asnWord(a))
		}
		most = max(most, len(l))
		for _, c := range l {
			if !impl.Opened(c) || impl.Contra(c) {
				t.Fatalf("Cases(%s): %s", asnWord(a), asnWord(c))
			}
		}
		checkOneCase(t, s, a, l)
		if is, ok := impl.Possible(a); !ok || held && !is {
			t.Fatalf("Possible(%s) = %v, %v, but it holds in %s", asnWord(a), is, ok, describeState(s))
		}
	})
	if most < 32 {
		t.Fatalf("at most %d cases", most)
	}
}

// In small states all can be asked: what holds nowhere there is not possible, and what is not possible holds nowhere.
func TestCasesInSmallStates(t *testing.T) {
	var states []impl.State
	smallStates(func(s impl.State) { states = append(states, s) })
	possible, not := 0, 0
	for i, a := range smallAsns(t) {
		l, ok := impl.Cases(a)
		if !ok {
			t.Fatalf("Cases(%s)", asnWord(a))
		}
		held := false
		for _, s := range states {
			held = held || impl.Holds(s, a)
			// All cases in all states would take too long.
			if i%7 == 0 {
				checkOneCase(t, s, a, l)
			}
		}
		is, ok := impl.Possible(a)
		w, found := impl.Witness(a)
		if !ok || is != held || found != held || is != (len(l) > 0) {
			t.Fatalf("Possible(%s) = %v, %v, with %d cases, Witness = %s, %v", asnWord(a), is, ok, len(l), describeState(w), found)
		}
		if is {
			possible++
		} else {
			not++
		}
	}
	if possible < 200 || not < 200 {
		t.Fatalf("%d are possible, %d are not", possible, not)
	}
}

func TestCaseOfKnownOnes(t *testing.T) {
	for _, c := range []struct {
		state, asn string
		want       int
	}{
		{"", "emp", 0},
		{"1>0", "emp", -1},
		{"a=1", "a..b", -1},
		{"a=1 b=1", "a..b", 0},
		{"a=1 b=2 1>2", "a..b", 1},
		{"a=1 b=2 1>3 3>2", "a..b", 1},
		{"", "a..b b..nil", 0},
		{"a=1 b=1 1>0", "a..b b..nil", 1},
		{"a=1 1>0", "a..b b..nil", 2},
		{"a=1 b=2 1>2 2>0", "a..b b..nil", 3},
		{"a=1 b=2 1>2 2>1", "a..b b..nil", -1},
		{"a=1 b=2 1>2 2>0", "a>b b..nil", 1},
		{"a=1 1>0", "a>b b..nil", 0},
		// What is left out is not counted.
		{"a=1 b=2 1>2", "a!b a..b", 0},
		{"a=1 b=1 1>0", "a..nil a..b", 1},
		{"a=1 c=2 b=3 1>3 2>3", "a!c a..b c..b", 2},
		{"a=1 b=1", "a!b a..b", -1},
		{"", "a!a", -1},
	} {
		if i := impl.CaseOf(mustState(t, c.state), mustRead(t, c.asn)); i != c.want {
			t.Errorf("CaseOf(%q, %q) = %d", c.state, c.asn, i)
		}
	}
}

func TestStatesOfCasesAreAsked(t *testing.T) {
	for _, s := range wrongStates() {
		for _, w := range []string{"emp", "a..a", "a=a", "a..b", "a>b b..c"} {
			a := mustRead(t, w)
			if i := impl.CaseOf(s, a); i != -1 {
				t.Errorf("CaseOf(%s, %q) = %d", describeState(s), w, i)
			}
			if l := impl.Lengths(s, a); len(l) != 0 {
				t.Errorf("Lengths(%s, %q) = %v", describeState(s), w, l)
			}
		}
	}
}

func TestWitnessKnownOnes(t *testing.T) {
	for text, want := range map[string]string{
		"emp":              "",
		"nil=nil":          "",
		"a=a":              "a=1",
		"a!b":              "a=1 b=2",
		"b!a":              "a=1 b=2",
		"e!c":              "c=1 e=2",
		"a=b":              "a=1 b=1",
		"b=a c=b d=d":      "a=1 b=1 c=1 d=2",
		"a=nil b=a":        "",
		"a=nil c!a":        "c=1",
		"a>nil":            "a=1 1>0",
		"a>a":              "a=1 1>1",
		"c>e":              "c=1 e=2 1>2",
		"e>c":              "c=1 e=2 2>1",
		"b=nil a>b":        "a=1 1>0",
		"a>b b>a":          "a=1 b=2 1>2 2>1",
		"a=b b>c d>a":      "a=1 b=1 c=2 d=3 1>2 3>1",
		"a..b":             "a=1 b=1", // the first case: it has nothing
		"nil..a":           "",
		"a..nil":           "",
		"a!b a..b":         "a=1 b=2 1>2",
		"a!nil a..nil":     "a=1 1>0",
		"a!nil a..b b..c":  "a=1 b=1 c=1",
		"b!nil a>b b..nil": "a=1 b=2 1>2 2>0",
		"a!c a..b b..c":    "a=1 b=1 c=2 1>2",
		"a!c c..b a..b":    "a=1 b=2 c=2 1>2",
		"a!e c!d b>nil":    "a=1 b=2 c=3 d=4 e=5 2>0",
	} {
		s, ok := impl.Witness(mustRead(t, text))
		if !ok || !sameState(s, mustState(t, want)) {
			t.Errorf("Witness(%q) = %s, %v", text, describeState(s), ok)
		}
	}
	s, ok := impl.Witness(mustRead(t, "_10=a _10>_9"))
	want := impl.State{Terms: termsWith(1), Heap: heapWith(2)}
	want.Terms[15], want.Terms[14] = 1, 2
	if !ok || !sameState(s, want) {
		t.Errorf("Witness with names = %s, %v", describeState(s), ok)
	}
}

// As many classes as there are addresses are not too many; one more is, and the next case is asked.
func TestWitnessHasAddrsAddresses(t *testing.T) {
	for text, want := range map[string]string{
		"a!b c!d e!_1":                      "a=1 b=2 c=3 d=4 e=5",
		"a!nil a!b c!d e!_1":                "a=1 b=2 c=3 d=4 e=5", // Nil's class wants no address
		"_2=nil a!_2 a!b c!d e!_1":          "a=1 b=2 c=3 d=4 e=5",
		"_2=a a!b c!d e!_1":                 "a=1 b=2 c=3 d=4 e=5",
		"a>b b>c c>d d>e e>_1 _1>nil":       "a=1 b=2 c=3 d=4 e=5 1>2 2>3 3>4 4>5 5>6 6>0",
		"a!c a!d e!_1 _2!_3 a..b c..b d..b": "a=1 b=2 c=2 d=2 e=3 1>2", // the first case has seven
	} {
		s, ok := impl.Witness(mustRead(t, text))
		for x := impl.Vars + 1; x < len(s.Terms); x++ {
			s.Terms[x] = 0
		}
		if !ok || !sameState(s, mustState(t, want)) {
			t.Errorf("Witness(%q) = %s, %v", text, describeState(s), ok)
		}
	}
	a := mustRead(t, "a!c a!d e!_1 _2!_3 a..b c..b d..b")
	if l, _ := impl.Cases(a); len(classesThere(l[0])) != impl.Addrs+1 || len(classesThere(l[1])) != impl.Addrs {
		t.Errorf("Cases(%s) = %q", asnWord(a), asnWords(l))
	}
	for _, text := range []string{"a!b c!d e!_1 _2!nil", "a=a b=b c=c d=d e=e _1=_1 _10=_10", "a!c a!d e!_1 _2!_3 _4!_4 a..b c..b d..b", "a!c a!d e!_1 _2!_3 _4!_3 a..b c..b d..b"} {
		if s, ok := impl.Witness(mustRead(t, text)); ok || !isZeroState(s) {
			t.Errorf("Witness(%q) = %s, %v", text, describeState(s), ok)
		}
	}
	if is, ok := impl.Possible(mustRead(t, "a!b c!d e!_1 _2!nil")); !ok || !is {
		t.Error("too many addresses, but possible")
	}
	for _, text := range []string{"a!a", "nil>a", "a!b a>nil a..b"} {
		if s, ok := impl.Witness(mustRead(t, text)); ok || !isZeroState(s) {
			t.Errorf("Witness(%q) = %s, %v", text, describeState(s), ok)
		}
	}
}

func TestWitnessesHold(t *testing.T) {
	found, pieces := 0, 0
	check := func(a impl.Asn) {
		s, ok := impl.Witness(a)
		if !ok {
			return
		}
		found++
		pieces += len(impl.Domain(s))
		if !impl.StateOk(s) || !impl.Holds(s, a) || impl.CaseOf(s, a) < 0 {
			t.Fatalf("Witness(%s) = %s", asnWord(a), describeState(s))
		}
	}
	for _, a := range append(smallAsns(t), drawnAsns(2000)...) {
		check(a)
	}
	drawnRoom(t, 3000, func(_ *draw, _ impl.State, a impl.Asn, _ bool) { check(a) })
	if found < 1500 || pieces < 2000 {
		t.Fatalf("%d witnesses, %d pieces", found, pieces)
	}
}

func TestUnfoldKnownOnes(t *testing.T) {
	for _, c := range []struct {
		text string
		seg  int
		want string // nothing: it is refused
	}{
		{"a!nil a..nil", 0, "a!nil a>_1 _1..nil"},
		{"nil!a a..nil", 0, "nil!a a>_1 _1..nil"},
		{"a!b a..b", 0, "a!b a>_1 _1..b"},
		{"a=c c!b a..b", 0, "a=c c!b a>_1 _1..b"},
		{"a=c b=d d!c a..b", 0, "a=c b=d d!c a>_1 _1..b"},
		{"a=b a!b a..b", 0, "a=b a!b a>_1 _1..b"},
		{"a!a a..a", 0, "a!a a>_1 _1..a"},
		{"a!_1 a.._1", 0, "a!_1 a>_2 _2.._1"},
		{"_1!_2 a!b _3>nil a..b", 0, "_1!_2 a!b _3>nil a>_4 _4..b"},
		{"a!b b!c c>d a..b b..c d..e", 1, "a!b b!c c>d b>_1 a..b d..e _1..c"},
		{"a!b b!c c>d a..b b..c d..e", 0, "a!b b!c c>d a>_1 b..c d..e _1..b"},
		{"a!b b!c c>d a..b b..c d..e", 2, ""},
		{"a!b b!c c>d a..b b..c d..e", 3, ""},
		{"a!b b!c c>d a..b b..c d..e", -1, ""},
		{"a!b a..b a..b", 1, "a!b a>_1 a..b _1..b"},
		{"a..nil", 0, ""},
		{"a>c a..nil", 0, ""}, // pieces alone do not tell
		{"b!nil a..nil", 0, ""},
		{"a!a a..nil", 0, ""},
		{"a!b a..nil", 0, ""},
		{"a=b a..b", 0, ""},
		{"emp", 0, ""},
		{"a!b a>b", 0, ""},
		{"a!b a>c b>c c>d d>e a..b", 0, "a!b a>c b>c c>d d>e a>_1 _1..b"},
		{"a!b a>c b>c c>d d>e e>a a..b", 0, ""},
		{"a!b a..b b..c c..d d..e e..a", 0, "a!b a>_1 b..c c..d d..e e..a _1..b"},
		{"a!b a..b b..c c..d d..e e..a a..nil", 0, ""},
		{"a!b _1..a _2..a _3..a _4..a a..b", 4, "a!b a>_5 _1..a _2..a _3..a _4..a _5..b"},
		{"_1=_2 _3=_4 _5=_6 _7=_8 _9=_10 a!b a..b", 0, ""},
		{"_1=_2 _3=_4 _5=_6 _7=_8 _10=_10 a!b a..b", 0, "_1=_2 _3=_4 _5=_6 _7=_8 _10=_10 a!b a>_9 _9..b"},
		{"_1=_2 _3=_4 _5=_6 _7=_8 _9=_9 a!b a..b", 0, "_1=_2 _3=_4 _5=_6 _7=_8 _9=_9 a!b a>_10 _10..b"},
	} {
		a := mustRead(t, c.text)
		u, ok := impl.Unfold(a, c.seg)
		if ok != (c.want != "") || ok && asnWord(u) != c.want || !ok && !isZero(u) {
			t.Errorf("Unfold(%q, %d) = %q, %v", c.text, c.seg, asnWord(u), ok)
		}
		checkCases(t, a)
	}
}

// What is unfolded holds where the fresh name is what is there, and nowhere else.
func TestUnfoldedHoldsWhereItDid(t *testing.T) {
	held, not := 0, 0
	drawnRoom(t, 30000, func(_ *draw, s impl.State, a impl.Asn, holds bool) {
		for seg, p := range a.Segs {
			u, ok := impl.Unfold(a, seg)
			if !ok {
				continue
			}
			f := impl.Fresh(a)
			there := s.Heap[s.Terms[p.A]]
			for x := range impl.Addrs + 1 {
				v := cloneState(s)
				v.Terms[f] = x
				if impl.Holds(v, u) != (holds && x == there) {
					t.Fatalf("Unfold(%s, %d) = %s in %s", asnWord(a), seg, asnWord(u), describeState(v))
				}
			}
			if holds {
				held++
			} else {
				not++
			}
		}
	})
	if held < 500 || not < 500 {
		t.Fatalf("%d hold, %d do not", held, not)
	}
}

var foldTexts = []struct {
	text      string
	cell, seg int
	want      string // nothing: it is refused
}{
	// The segment's B is of Nil's class.
	{"a>b b..nil", 0, 0, "a..nil"},
	{"a>nil nil..nil", 0, 0, "a..nil"},
	{"c=nil a>b b..c", 0, 0, "c=nil a..c"},
	{"b=c a>b c..nil", 0, 0, "b=c a..nil"},
	{"a=b a>b b..nil", 0, 0, "a=b a..nil"},
	{"nil>b b..nil", 0, 0, "nil..nil"},
	// One of Nes is of the classes of that and of the cell's A.
	{"a!c a>b b..c", 0, 0, "a!c a..c"},
	{"c!a a>b b..c", 0, 0, "c!a a..c"},
	{"b!a a>c c..b", 0, 0, "b!a a..b"},
	{"a=d c=e e!d a>b b..c", 0, 0, "a=d c=e e!d a..c"},
	{"a=d c=e d!e a>b b..c", 0, 0, "a=d c=e d!e a..c"},
	{"a!a a>b b..a", 0, 0, "a!a a..a"},
	// Another cell begins at that of the segment's B.
	{"a>b c>nil b..c", 0, 0, "c>nil a..c"},
	{"c>nil a>b b..c", 1, 0, "c>nil a..c"},
	{"c=d a>b d>a b..c", 0, 0, "c=d d>a a..c"},
	{"a>b a>c b..a", 0, 0, "a>c a..a"}, // the other of two at one place
	// None of these.
	{"a>b b..c", 0, 0, ""},
	{"a>b b..a", 0, 0, ""},
	{"a>b b..b", 0, 0, ""},
	{"a>a a..a", 0, 0, ""},
	{"a=c a>b b..c", 0, 0, ""},
	{"a!b a>b b..c", 0, 0, ""},
	{"b!c a>b b..c", 0, 0, ""},
	{"a!nil c!nil a>b b..c", 0, 0, ""},
	{"a!a a>b b..c", 0, 0, ""},
	{"c!c a>b b..c", 0, 0, ""},
	{"a>b b>nil b..c", 0, 0, ""},
	{"a>b a>c b..c", 0, 0, ""}, // another one at the cell's A
	{"a>b d>c b..c", 0, 0, ""}, // another one that ends there
	{"c!d a>b b..c c..d", 0, 0, ""},
	{"a>b b..c c..nil", 0, 0, ""}, // another segment is not asked, be it opened or not
	{"c!nil a>b b..c c..nil", 0, 0, ""},
	// The cell's B is not of the class of the segment's A.
	{"a>b c..nil", 0, 0, ""},
	{"a>b a..nil", 0, 0, ""},
	{"a>nil b..nil", 0, 0, ""},
	{"a>nil a..nil", 0, 0, ""},
	{"a=b c=d a>b d..nil", 0, 0, ""},
	{"b!c a>b c..nil", 0, 0, ""},
	// There are no such pieces.
	{"emp", 0, 0, ""},
	{"a>b", 0, 0, ""},
	{"b..nil", 0, 0, ""},
	{"a>b b..nil", 1, 0, ""},
	{"a>b b..nil", 0, 1, ""},
	{"a>b b..nil", -1, 0, ""},
	{"a>b b..nil", 0, -1, ""},
	{"a>b b..nil", math.MaxInt, 0, ""},
	{"a>b b..nil", 0, math.MinInt, ""},
	// Both go, and the others keep their order.
	{"d=e d!nil e>d a>b d>e c..d b..nil d..nil", 1, 1, "d=e d!nil e>d d>e c..d d..nil a..nil"},
	{"a>b b..c b..nil", 0, 1, "b..c a..nil"},
	{"a>b b..nil b..nil", 0, 0, "b..nil a..nil"},
	{"a>b c>b b..nil", 1, 0, "a>b c..nil"},
	{"a>b b>c c>d d>e e>nil nil..nil", 4, 0, "a>b b>c c>d d>e e..nil"},
	{"_10>_9 _9..nil", 0, 0, "_10..nil"},
}

func TestFoldKnownOnes(t *testing.T) {
	states := statesOfThree()
	for _, c := range foldTexts {
		a := mustRead(t, c.text)
		f, ok := impl.Fold(a, c.cell, c.seg)
		if ok != (c.want != "") || ok && asnWord(f) != c.want || !ok && !isZero(f) {
			t.Errorf("Fold(%q, %d, %d) = %q, %v", c.text, c.cell, c.seg, asnWord(f), ok)
		}
		checkCases(t, a)
		if !ok {
			continue
		}
		for _, s := range states {
			if impl.Holds(s, a) && !impl.Holds(s, f) {
				t.Fatalf("Fold(%q) = %q in %s", c.text, asnWord(f), describeState(s))
			}
		}
	}
}

// Without one of the three reasons it may come back: there the cell and the segment hold, but not the whole.
func TestFoldWantsAReason(t *testing.T) {
	s := mustState(t, "a=1 b=2 c=1 1>2 2>1")
	if !impl.Holds(s, mustRead(t, "a>b b..c")) || impl.Holds(s, mustRead(t, "a..c")) {
		t.Error("it comes back")
	}
	if _, ok := impl.Fold(mustRead(t, "a>b b..c"), 0, 0); ok {
		t.Error("it may come back")
	}
}

// cutUp has a segment as a cell and the rest, with a name for what is between, which s has then, too.
func (d *draw) cutUp(s impl.State, a impl.Asn) (impl.State, impl.Asn) {
	f := impl.Fresh(a)
	if len(a.Segs) == 0 || f < 0 || len(a.Cells)+len(a.Segs) == impl.MaxSpace {
		return s, a
	}
	seg := d.below(len(a.Segs))
	p := a.Segs[seg]
	there := s.Heap[s.Terms[p.A]]
	if there == gone || s.Terms[p.A] == s.Terms[p.B] {
		return s, a
	}
	s = cloneState(s)
	s.Terms[f] = there
	a.Cells = slices.Insert(slices.Clone(a.Cells), d.below(len(a.Cells)+1), impl.Pair{A: p.A, B: f})
	a.Segs = slices.Insert(lessBy(a.Segs, seg), d.below(len(a.Segs)), impl.Pair{A: f, B: p.B})
	return s, a
}

// What is folded holds where it was not.
func TestFoldedHoldsWhereItDid(t *testing.T) {
	var byNil, byNes, byCell, refused int
	drawnRoom(t, 30000, func(d *draw, s impl.State, a impl.Asn, _ bool) {
		s, a = d.cutUp(s, a)
		if !impl.Holds(s, a) {
			return
		}
		k := knownBy(a)
		for cell, p := range a.Cells {
			for seg, q := range a.Segs {
				f, ok := impl.Fold(a, cell, seg)
				switch {
				case !ok && k.same[p.B][q.A]:
					refused++
				case !ok:
				case !impl.Holds(s, f):
					t.Fatalf("Fold(%s, %d, %d) = %s in %s", asnWord(a), cell, seg, asnWord(f), describeState(s))
				case k.same[q.B][impl.Nil]:
					byNil++
				case k.nes(q.B, p.A):
					byNes++
				default:
					byCell++
				}
			}
		}
	})
	if min(byNil, byNes, byCell, refused) < 50 {
		t.Fatalf("%d by Nil, %d by Nes, %d by a cell, %d refused", byNil, byNes, byCell, refused)
	}
}

// What is unfolded can be folded: its segment stands last then.
func TestUnfoldedIsFolded(t *testing.T) {
	n := 0
	drawnRoom(t, 15000, func(_ *draw, _ impl.State, a impl.Asn, _ bool) {
		for seg, p := range a.Segs {
			u, ok := impl.Unfold(a, seg)
			if !ok {
				continue
			}
			n++
			want := a
			want.Segs = append(lessBy(a.Segs, seg), p)
			if f, ok := impl.Fold(u, len(u.Cells)-1, len(u.Segs)-1); !ok || !sameAsn(f, want) {
				t.Fatalf("Fold(%s) = %s, %v", asnWord(u), asnWord(f), ok)
			}
		}
	})
	if n < 500 {
		t.Fatalf("%d were unfolded", n)
	}
}

func TestPiecesOfCasesAreAsked(t *testing.T) {
	places := []int{-1, 1, 2, 6, 12, math.MinInt, math.MaxInt, 1 << 32, -(1 << 32), 256, -256}
	a := mustRead(t, "a!nil b!nil a>b b..nil")
	for _, i := range places {
		if u, ok := impl.Unfold(a, i); ok || !isZero(u) {
			t.Errorf("Unfold(%d) = %s, %v", i, asnWord(u), ok)
		}
		if x, y, ok := impl.Split(a, i); ok || !isZero(x) || !isZero(y) {
			t.Errorf("Split(%d) = %s, %s, %v", i, asnWord(x), asnWord(y), ok)
		}
		for _, c := range [][2]int{{i, 0}, {0, i}, {i, i}} {
			if f, ok := impl.Fold(a, c[0], c[1]); ok || !isZero(f) {
				t.Errorf("Fold(%v) = %s, %v", c, asnWord(f), ok)
			}
		}
	}
	if _, ok := impl.Unfold(a, 0); !ok {
		t.Error("Unfold of what is there")
	}
	if _, _, ok := impl.Split(a, 0); !ok {
		t.Error("Split by what is there")
	}
	if _, ok := impl.Fold(a, 0, 0); !ok {
		t.Error("Fold of what is there")
	}
}

func TestLengthsKnownOnes(t *testing.T) {
	for _, c := range []struct {
		state, asn string
		want       []int
	}{
		{"", "emp", nil},
		{"a=1 1>0", "a>nil", nil},
		{"", "a..nil", []int{0}},
		{"a=1", "a..a", []int{0}},
		{"a=1 1>0", "a..nil", []int{1}},
		{"a=1 1>2 2>0", "a..nil", []int{2}},
		{"a=1 1>2 2>3 3>4 4>5 5>6 6>0", "a..nil", []int{6}},
		{"a=1 b=4 1>2 2>4 4>0", "a..b b..nil", []int{2, 1}},
		{"a=1 b=4 1>2 2>4 4>0", "b..nil a..b", []int{1, 2}},
		{"a=1 b=4 1>2 2>4 4>0", "b>nil a..b", []int{2}},
		{"a=1 b=4 1>2 2>4 4>0", "a..b b..nil c..nil a..a", []int{2, 1, 0, 0}},
		{"a=1 b=2 1>2 2>1", "a..b b..a", []int{1, 1}},
		{"a=1 b=4 1>2 2>4 4>0", "a..b", nil}, // it does not hold: not all is in it
		{"a=1 b=4 1>2 2>4 4>0", "a..b b..a", nil},
		{"a=1 b=4 1>2 2>4 4>0", "a=b a..b b..nil", nil},
		{"a=1 b=4 1>2 2>4 4>0", "a!a a..b b..nil", nil},
	} {
		if l := impl.Lengths(mustState(t, c.state), mustRead(t, c.asn)); !slices.Equal(l, c.want) {
			t.Errorf("Lengths(%q, %q) = %v", c.state, c.asn, l)
		}
	}
}

// Cells and what segments have are all that is there.
func TestLengthsAndCellsAreAll(t *testing.T) {
	drawnRoom(t, 4000, func(_ *draw, s impl.State, a impl.Asn, held bool) {
		l := impl.Lengths(s, a)
		if !held {
			if len(l) != 0 {
				t.Fatalf("Lengths(%s, %s) = %v", describeState(s), asnWord(a), l)
			}
			return
		}
		if len(l) != len(a.Segs) {
			t.Fatalf("Lengths(%s, %s) = %v", describeState(s), asnWord(a), l)
		}
		all := len(a.Cells)
		for i, p := range a.Segs {
			way, ok := wayBy(s.Heap, s.Terms[p.A], s.Terms[p.B])
			if !ok || l[i] != len(way) {
				t.Fatalf("Lengths(%s, %s) = %v", describeState(s), asnWord(a), l)
			}
			all += l[i]
		}
		if all != len(impl.Domain(s)) {
			t.Fatalf("Lengths(%s, %s) = %v", describeState(s), asnWord(a), l)
		}
	})
}

func TestSplitKnownOnes(t *testing.T) {
	for _, c := range []struct {
		text string
		seg  int
		want string // nothing: it is refused
	}{
		{"a..b", 0, "a=b; a!b a..b"},
		{"a..nil", 0, "a=nil; a!nil a..nil"},
		{"a..a", 0, "a=a; a!a a..a"}, // what is contrary is told, too
		{"a!b a..b", 0, "a=b a!b; a!b a!b a..b"},
		{"c=d d!e e>a a..b b..c c..d", 0, "c=d a=b d!e e>a b..c c..d; c=d d!e a!b e>a a..b b..c c..d"},
		{"c=d d!e e>a a..b b..c c..d", 1, "c=d b=c d!e e>a a..b c..d; c=d d!e b!c e>a a..b b..c c..d"},
		{"c=d d!e e>a a..b b..c c..d", 2, "c=d c=d d!e e>a a..b b..c; c=d d!e c!d e>a a..b b..c c..d"},
		{"c=d d!e e>a a..b b..c c..d", 3, ""},
		{"c=d d!e e>a a..b b..c c..d", -1, ""},
		{"emp", 0, ""},
		{"a>b", 0, ""},
	} {
		x, y, ok := impl.Split(mustRead(t, c.text), c.seg)
		if got := asnWord(x) + "; " + asnWord(y); ok != (c.want != "") || ok && got != c.want || !ok && !(isZero(x) && isZero(y)) {
			t.Errorf("Split(%q, %d) = %q, %v", c.text, c.seg, got, ok)
		}
	}
}

// Split by a segment it holds just where one of the two does.
func TestSplitHoldsInOneOfTwo(t *testing.T) {
	var first, second, neither int
	drawnRoom(t, 4000, func(_ *draw, s impl.State, a impl.Asn, held bool) {
		for seg := range a.Segs {
			x, y, ok := impl.Split(a, seg)
			if !ok || !impl.AsnOk(x) || !impl.AsnOk(y) {
				t.Fatalf("Split(%s, %d) = %s, %s, %v", asnWord(a), seg, describe(x), describe(y), ok)
			}
			inFirst, inSecond := impl.Holds(s, x), impl.Holds(s, y)
			if held != (inFirst || inSecond) || inFirst && inSecond {
				t.Fatalf("Split(%s, %d) = %s (%v), %s (%v) in %s", asnWord(a), seg, asnWord(x), inFirst, asnWord(y), inSecond, describeState(s))
			}
			switch {
			case inFirst:
				first++
			case inSecond:
				second++
			default:
				neither++
			}
		}
	})
	if min(first, second, neither) < 500 {
		t.Fatalf("%d in the first, %d in the second, %d in neither", first, second, neither)
	}
}
