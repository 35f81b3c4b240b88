package tests

import (
	"slices"
	"strings"
	"testing"

	"loop.example/g00621/impl"
)

// classesWith has what is told, term by term; behind that each is its own class.
func classesWith(told ...int) []int {
	l := make([]int, impl.Terms)
	for t := range l {
		l[t] = t
	}
	copy(l, told)
	return l
}

func TestClassesKnownOnes(t *testing.T) {
	for text, want := range map[string][]int{
		"emp":               classesWith(),
		"a=a":               classesWith(),
		"nil=nil _10=_10":   classesWith(),
		"a=b":               classesWith(0, 1, 1),
		"b=a":               classesWith(0, 1, 1),
		"a=b c=b d>nil":     classesWith(0, 1, 1, 1),
		"b=c c=a":           classesWith(0, 1, 1, 1),
		"c=b b=a":           classesWith(0, 1, 1, 1),
		"c=a c=b":           classesWith(0, 1, 1, 1),
		"a=b d=e b=d":       classesWith(0, 1, 1, 3, 1, 1), // two classes that come together late
		"d=e a=b e=b":       classesWith(0, 1, 1, 3, 1, 1),
		"a=b c=d":           classesWith(0, 1, 1, 3, 3),
		"nil=c":             classesWith(0, 1, 2, 0),
		"c=nil":             classesWith(0, 1, 2, 0),
		"e=d d=c c=b b=a":   classesWith(0, 1, 1, 1, 1, 1),
		"e=d d=c c=b a=nil": classesWith(0, 0, 2, 2, 2, 2),
		"a=e e=nil":         classesWith(0, 0, 2, 3, 4, 0),
		"a=b b=a a=b a=a":   classesWith(0, 1, 1),
		"_10=nil":           classesWith(0, 1, 2, 3, 4, 5, 6, 7, 8, 9, 10, 11, 12, 13, 14, 0),
		"_9=_10":            classesWith(0, 1, 2, 3, 4, 5, 6, 7, 8, 9, 10, 11, 12, 13, 14, 14),
		"a!b a>b b>a a..b":  classesWith(), // only Eqs tell
	} {
		if l := impl.Classes(mustRead(t, text)); !slices.Equal(l, want) {
			t.Errorf("Classes(%q) = %v, not %v", text, l, want)
		}
	}
}

// drawOrder puts a list in a drawn order, and its pairs either way about.
func (d *draw) drawOrder(l pairs) pairs {
	l = slices.Clone(l)
	for i := range l {
		j := i + d.below(len(l)-i)
		l[i], l[j] = l[j], l[i]
		if d.below(2) == 0 {
			l[i] = impl.Pair{A: l[i].B, B: l[i].A}
		}
	}
	return l
}

// A full chain of Eqs is one class, in whatever order it is told.
func TestFullChains(t *testing.T) {
	d := draw(11)
	for from := range impl.Terms - impl.MaxPure {
		var chain, star pairs
		for i := range impl.MaxPure {
			chain = append(chain, impl.Pair{A: from + i, B: from + i + 1})
			star = append(star, impl.Pair{A: from + i, B: from + impl.MaxPure})
		}
		for range 50 {
			for _, l := range []pairs{chain, star} {
				a := impl.Asn{Eqs: d.drawOrder(l), Nes: pairs{{A: 15, B: 0}}, Cells: pairs{{A: from + 12, B: from + 7}}}
				want := classesWith()
				for i := range impl.MaxPure {
					want[from+i+1] = from
				}
				if got := impl.Classes(a); !slices.Equal(got, want) || impl.ClassCount(a) != impl.Terms-impl.MaxPure {
					t.Fatalf("Classes(%s) = %v, %d of them", asnWord(a), got, impl.ClassCount(a))
				}
				if m := impl.Members(a, from+5); len(m) != impl.MaxPure+1 || m[0] != from || m[impl.MaxPure] != from+impl.MaxPure {
					t.Fatalf("Members(%s, %d) = %v", asnWord(a), from+5, m)
				}
				if n, ok := impl.Normal(a); !ok || len(n.Eqs) != impl.MaxPure || !slices.Equal(n.Cells, pairs{{A: from, B: from}}) {
					t.Fatalf("Normal(%s) = %s, %v", asnWord(a), describe(n), ok)
				}
				checkPure(t, a)
			}
		}
	}
}

// There is no assertion whose Normal would not be AsnOk: one of Eqs joins at most one class to another.
func TestNormalIsAlwaysOk(t *testing.T) {
	d := draw(12)
	most := 0
	for range 3000 {
		a := impl.Asn{Eqs: d.pairs(impl.MaxPure, 1+d.below(impl.Terms)), Nes: d.pairs(impl.MaxPure, impl.Terms), Segs: d.pairs(impl.MaxSpace, impl.Terms)}
		n, ok := impl.Normal(a)
		if !ok || !impl.AsnOk(n) || len(n.Nes) != impl.MaxPure || len(n.Segs) != impl.MaxSpace {
			t.Fatalf("Normal(%s) = %s, %v", asnWord(a), describe(n), ok)
		}
		most = max(most, len(n.Eqs))
	}
	if most < 10 {
		t.Fatalf("at most %d of Eqs", most)
	}
}

func TestNormalKnownOnes(t *testing.T) {
	for text, want := range map[string]string{
		"emp":                          "emp",
		"a=a":                          "emp",
		"nil=nil _10=_10":              "emp",
		"b=a":                          "b=a",
		"a=b":                          "b=a",
		"a=b a=b b=a":                  "b=a",
		"b=c c=a c!nil c>b":            "b=a c=a a!nil a>a",
		"e=d d=c c=nil":                "c=nil d=nil e=nil",
		"a=nil a!b a..b":               "a=nil nil!b nil..b",
		"_10=_9 a=_10 _9!_10 _9.._10":  "_9=a _10=a a!a a..a",
		"c=b a!c a!c c!b":              "c=b a!b a!b b!b", // none goes, and their order stays
		"b=a d=c d>b b>d d..a b..c":    "b=a d=c c>a a>c c..a a..c",
		"a!b b>a a..b":                 "a!b b>a a..b",
		"nil=_10 _10!_10 _10>_10 a..b": "_10=nil nil!nil nil>nil a..b",
	} {
		if n, ok := impl.Normal(mustRead(t, text)); !ok || asnWord(n) != want {
			t.Errorf("Normal(%q) = %q, %v", text, asnWord(n), ok)
		}
	}
}

func TestHeadsKnownOnes(t *testing.T) {
	for text, want := range map[string][]int{
		"emp":                            nil,
		"a=b a!b":                        nil,
		"a>b":                            {1},
		"b>a":                            {2},
		"a=b c>a b..c":                   {3, 1},
		"a=b b..c":                       {1},
		"e=d d=c e>nil d..nil":           {3, 3},
		"a=nil a>b nil..b":               {0, 0},
		"_10>nil _9..nil":                {15, 14},
		"_10=a _10>nil b>nil _10..b":     {1, 2, 1},
		"c>a b>a a>a c..nil b..c a..nil": {3, 2, 1, 3, 2, 1}, // neither sorted nor once
	} {
		if l := impl.Heads(mustRead(t, text)); !slices.Equal(l, want) {
			t.Errorf("Heads(%q) = %v", text, l)
		}
	}
}

func TestHeadAtKnownOnes(t *testing.T) {
	for _, c := range []struct {
		text string
		t    int
		want int
	}{
		{"emp", 0, -1},
		{"emp", 15, -1},
		{"a=b c>a b..c", 3, 0},
		{"a=b c>a b..c", 1, 1},
		{"a=b c>a b..c", 2, 1},
		{"a=b c>a b..c", 4, -1},
		{"a=b c>a b..c", 0, -1},
		{"a=b c>a b..c", -1, -1},
		{"a=b c>a b..c", 16, -1},
		{"a>b a>c a..b", 1, 0}, // the first of several
		{"a>b", 2, -1},         // it ends there, but begins elsewhere
		{"a=nil b>c a..b", 0, 1},
		{"nil>a", 0, 0},
		{"_10>a", 15, 0},
		{"_10=a a>b", 15, 0},
		{"a>b b>c c>d d>e e>a _1..nil", 6, 5},
	} {
		if i := impl.HeadAt(mustRead(t, c.text), c.t); i != c.want {
			t.Errorf("HeadAt(%q, %d) = %d", c.text, c.t, i)
		}
	}
}

func TestMembersKnownOnes(t *testing.T) {
	for _, c := range []struct {
		text string
		t    int
		want []int
	}{
		{"emp", 0, []int{0}},
		{"emp", 15, []int{15}},
		{"emp", -1, nil},
		{"emp", 16, nil},
		{"c=b e=c", 3, []int{2, 3, 5}},
		{"c=b e=c", 5, []int{2, 3, 5}},
		{"c=b e=c", 1, []int{1}},
		{"_10=nil nil=c", 0, []int{0, 3, 15}},
		{"_10=nil nil=c", 15, []int{0, 3, 15}},
		{"a!b a>b", 1, []int{1}},
	} {
		if l := impl.Members(mustRead(t, c.text), c.t); !slices.Equal(l, c.want) {
			t.Errorf("Members(%q, %d) = %v", c.text, c.t, l)
		}
	}
}

func TestClassCountKnownOnes(t *testing.T) {
	for text, want := range map[string]int{
		"emp":              16,
		"a=a":              16,
		"a!b a>b a..b":     16,
		"a=b":              15,
		"a=b b=a":          15,
		"a=b c=d":          14,
		"a=b c=d a=d":      13,
		"a=b c=d a=d b=c":  13,
		"nil=_10 _10=a":    14,
		"a=b b=c c=d d=e":  12,
		"a=nil b=nil a!b":  14,
		"_1=_2 _3=_4 _5=e": 13,
	} {
		if n := impl.ClassCount(mustRead(t, text)); n != want {
			t.Errorf("ClassCount(%q) = %d", text, n)
		}
	}
}

// checkWords asks of each of asns (parted by "; ") the same; ~ stands ahead of those of which it is not so.
func checkWords(t *testing.T, name string, asns string, is func(impl.Asn) bool) {
	t.Helper()
	for _, w := range strings.Split(asns, "; ") {
		text, no := strings.CutPrefix(w, "~")
		if is(mustRead(t, text)) == no {
			t.Errorf("%s(%q) = %v", name, text, no)
		}
	}
}

func TestOpenedKnownOnes(t *testing.T) {
	checkWords(t, "Opened", "emp; a=b; a!b; a!a; a>b; nil>nil; a!b a..b; b!a a..b; a!b b..a; a=c c!b a..b; a=c b!c a..b; "+
		"a=c b=d d!c a..b; a!a a..a; nil!nil nil..nil; a=b a!b a..b; a=b b!b a..b; a=b a!a a..b; a!b a..b a..b b..a; a!nil b!nil a..nil b..nil; nil!_10 _10..nil", impl.Opened)
	checkWords(t, "Opened", "~a..b; ~a..a; ~nil..nil; ~a=b a..b; ~a!c a..b; ~a!c b!c a..b; ~a!nil a..nil b..nil; ~b!nil a..nil b..nil; "+
		"~a=c c!b a..c; ~a!a a..b; ~a!b a..a; ~a!b a>b a..nil; ~a!nil nil..b; ~a>nil a..nil; ~a=b c=d a!b a..c", impl.Opened)
}

func TestContraKnownOnes(t *testing.T) {
	checkWords(t, "Contra", "a!a; nil!nil; a=b a!b; a=b b!a; a=b b=c c=d d!a; nil>a; nil>nil; a=nil a>b; a=nil b>c a>b; a>b a>c; a>b a>b; a=b a>nil b>nil; "+
		"a=b b=c c>nil a>nil; a!b a>b a..b; a!b a>c a..b; a!b a!c a..b a..c; a!b a..b a..b; a=nil a!b a..b; nil!b nil..b; a!a a..a; a=b a!b a..b; "+
		"a=c a!b a>nil c..b; _9=_10 _9>a _10>a; _10=nil _10>a; a=b a!b c>d", impl.Contra)
	checkWords(t, "Contra", "~emp; ~a=b; ~a=a; ~a!b; ~a=b a!c; ~a>nil; ~a>a; ~a>b b>a; ~a=b a>b; ~a=b a>nil c>nil; ~a!b a..b; ~a=nil b!a b..a; ~b!a b..nil a..b; "+
		"~a!nil b!nil a..nil b..nil; ~a=nil b>a; ~a=b c>a d>b", impl.Contra)
	// What is not opened is never contrary, whatever else is in it.
	checkWords(t, "Contra", "~nil..a; ~a..a; ~a!a b..c; ~a=b a!b c..d; ~nil>a a..b; ~a>b a>c d..e; ~a..b a..b; ~a=b a..b; ~a!b nil>a b..c", impl.Contra)
}

func TestUnlikeKnownOnes(t *testing.T) {
	unlike := func(x, y int) func(impl.Asn) bool {
		return func(a impl.Asn) bool {
			if impl.Unlike(a, x, y) != impl.Unlike(a, y, x) {
				t.Errorf("Unlike(%s, %d, %d) hangs on their order", asnWord(a), x, y)
			}
			return impl.Unlike(a, x, y)
		}
	}
	// By Nes, also of one class.
	checkWords(t, "Unlike", "a!b; b!a; a=c c!b; b=c c!a; a=c b=d d!c; a=b a!b; a=b a!a; a=b b!b; a=b b=c c=d d!a; ~emp; ~a=b; ~a!c; ~a!a; ~a!c b!c; ~a!nil b!nil", unlike(1, 2))
	checkWords(t, "Unlike", "a!a; a=b a!b; a=b b!b; ~emp; ~a=b; ~a>nil; ~a>nil b>nil; ~a>nil a>nil; ~b!b; ~a!b", unlike(1, 1))
	// By pieces that begin at both.
	checkWords(t, "Unlike", "a>nil b>nil; a>b b>a; a=c b=d c>nil d>nil; b!c a>c b..c; a!c b!c a..c b..c; a=nil b>c; b=nil a>c; "+
		"~a>nil; ~a>b; ~b>a; ~b>nil c>nil; ~a=b a>nil b>nil; ~a=b a>nil; ~c>a d>b; ~a!c a..c", unlike(1, 2))
	// By one piece, beside Nil's class.
	checkWords(t, "Unlike", "a>nil; a>a; a>b; a!nil; a=b b>nil; b=nil a>c; a!b a..b; a!nil a..nil; ~emp; ~b>a; ~b>nil; ~a=nil a>nil; ~a=nil nil>b; ~nil>b; ~nil>a; ~b!a b..a", unlike(1, impl.Nil))
	checkWords(t, "Unlike", "nil!nil; a=nil a!nil; ~nil>nil; ~nil>a; ~a=nil a>nil; ~emp", unlike(impl.Nil, impl.Nil))
	// What begins at Nil's class is apart from what begins elsewhere, but from nothing else.
	checkWords(t, "Unlike", "nil>b a>b; ~nil>b; ~nil>a", unlike(impl.Nil, 1))
	// The first and the last term.
	checkWords(t, "Unlike", "_10>nil; nil!_10; _10!nil; _9=_10 _9>a; ~_9>nil; ~nil>_10; ~_10=nil _10>a", unlike(impl.Nil, impl.Terms-1))
	// What is not opened knows of nothing.
	checkWords(t, "Unlike", "~a!b c..d; ~a>nil b>nil c..d; ~a..nil b..nil; ~a!nil a..nil b..nil; ~a..b", unlike(1, 2))
	checkWords(t, "Unlike", "~a..nil; ~a>nil b..nil; ~a!nil b..c", unlike(1, impl.Nil))
}

func TestAlikeKnownOnes(t *testing.T) {
	alike := func(x, y int) func(impl.Asn) bool {
		return func(a impl.Asn) bool { return impl.Alike(a, x, y) && impl.Alike(a, y, x) }
	}
	checkWords(t, "Alike", "a=b; b=a; a=c c=b; c=a b=c; a=nil nil=b; a=c d=b c=d; a=b a!b; a=b c..d; ~emp; ~a=c; ~a=c b=d; ~a=a b=b; ~a!b; ~a>b; ~a..b", alike(1, 2))
	checkWords(t, "Alike", "nil=_10; _10=a a=nil; ~emp; ~_9=nil; ~_10=a", alike(impl.Nil, impl.Terms-1))
	checkWords(t, "Alike", "emp; a!a; a=b; a..b", alike(1, 1))
	checkWords(t, "Alike", "emp; nil!nil; _10..a", alike(impl.Terms-1, impl.Terms-1))
}

// Each answer is as it is told apart from the program.
func TestPureByAnotherWay(t *testing.T) {
	for _, a := range drawnAsns(1500) {
		checkPure(t, a)
	}
	for _, a := range smallAsns(t) {
		checkPure(t, a)
	}
	drawnKnown(t, 1500, func(_ *draw, _ impl.State, a impl.Asn, _ bool) { checkPure(t, a) })
}

// Where it holds, what is alike is the same, and what is unlike is not; what is contrary does not.
func TestWhatIsKnownIsSo(t *testing.T) {
	alike, byNes, byPieces := 0, 0, 0
	drawnKnown(t, 6000, func(_ *draw, s impl.State, a impl.Asn, held bool) {
		if !held {
			return
		}
		if impl.Contra(a) {
			t.Fatalf("Contra(%s), but it holds in %s", asnWord(a), describeState(s))
		}
		bare := impl.Asn{Eqs: a.Eqs, Nes: a.Nes}
		for x := range impl.Terms {
			for y := range impl.Terms {
				same := s.Terms[x] == s.Terms[y]
				if impl.Alike(a, x, y) && !same || impl.Unlike(a, x, y) && same {
					t.Fatalf("%s: Alike(%d, %d) = %v, Unlike = %v in %s", asnWord(a), x, y, impl.Alike(a, x, y), impl.Unlike(a, x, y), describeState(s))
				}
				switch {
				case x != y && impl.Alike(a, x, y):
					alike++
				case impl.Unlike(a, x, y) && impl.Unlike(bare, x, y):
					byNes++
				case impl.Unlike(a, x, y):
					byPieces++
				}
			}
		}
	})
	if alike < 10000 || byNes < 10000 || byPieces < 10000 {
		t.Fatalf("%d are alike, %d unlike by Nes, %d by pieces", alike, byNes, byPieces)
	}
}

// seen tells for nil, a and b, two by two, in which small states an assertion holds.
type seen struct {
	held bool
	same [3][3]bool
	not  [3][3]bool
}

func seenIn(states []impl.State, a impl.Asn) seen {
	var v seen
	for _, s := range states {
		if !impl.Holds(s, a) {
			continue
		}
		v.held = true
		for x := range 3 {
			for y := range 3 {
				if s.Terms[x] == s.Terms[y] {
					v.same[x][y] = true
				} else {
					v.not[x][y] = true
				}
			}
		}
	}
	return v
}

// With two variables there is room for whatever an opened assertion leaves open: what is known is all that is so.
func TestWhatIsKnownInSmallStates(t *testing.T) {
	var states []impl.State
	smallStates(func(s impl.State) { states = append(states, s) })
	contrary, possible := 0, 0
	for _, a := range smallAsns(t) {
		if !impl.Opened(a) {
			if impl.Contra(a) || impl.Unlike(a, 0, 1) || impl.Unlike(a, 1, 2) || impl.Unlike(a, 0, 2) {
				t.Fatalf("%s is not opened", asnWord(a))
			}
			continue
		}
		v := seenIn(states, a)
		if impl.Contra(a) == v.held {
			t.Fatalf("Contra(%s) = %v", asnWord(a), v.held)
		}
		if !v.held {
			contrary++
			continue
		}
		possible++
		for x := range 3 {
			for y := range 3 {
				if impl.Alike(a, x, y) == v.not[x][y] || impl.Unlike(a, x, y) == v.same[x][y] {
					t.Fatalf("%s: Alike(%d, %d) = %v, Unlike = %v", asnWord(a), x, y, v.not[x][y], v.same[x][y])
				}
			}
		}
	}
	if contrary < 100 || possible < 100 {
		t.Fatalf("%d are contrary, %d possible", contrary, possible)
	}
}

// The least terms tell the same: they hold just where the assertion does.
func TestNormalHoldsWhereItDoes(t *testing.T) {
	drawnKnown(t, 4000, func(_ *draw, s impl.State, a impl.Asn, held bool) {
		n, ok := impl.Normal(a)
		if !ok || impl.Holds(s, n) != held {
			t.Fatalf("Normal(%s) = %s, %v in %s, where it holds: %v", asnWord(a), asnWord(n), ok, describeState(s), held)
		}
		if !slices.Equal(impl.Classes(n), impl.Classes(a)) || !slices.Equal(impl.Heads(n), impl.Heads(a)) || impl.Opened(n) != impl.Opened(a) || impl.Contra(n) != impl.Contra(a) {
			t.Fatalf("Normal(%s) = %s", asnWord(a), asnWord(n))
		}
		if again, ok := impl.Normal(n); !ok || !sameAsn(again, n) {
			t.Fatalf("Normal(%s) = %s, %v", asnWord(n), asnWord(again), ok)
		}
	})
}

// All of a class are alike, and nobody else; as many classes there are as terms that are their own.
func TestClassesAndTheirMembers(t *testing.T) {
	for _, a := range append(drawnAsns(1000), impl.Asn{}) {
		l := impl.Classes(a)
		own, all := 0, 0
		for x := range impl.Terms {
			m := impl.Members(a, x)
			if len(m) == 0 || m[0] != l[x] || !slices.IsSorted(m) {
				t.Fatalf("Members(%s, %d) = %v", asnWord(a), x, m)
			}
			for y := range impl.Terms {
				if slices.Contains(m, y) != impl.Alike(a, x, y) || impl.Alike(a, x, y) != (l[x] == l[y]) {
					t.Fatalf("Members(%s, %d) = %v, Alike to %d: %v", asnWord(a), x, m, y, impl.Alike(a, x, y))
				}
			}
			if l[x] == x {
				own++
				all += len(m)
			}
		}
		if impl.ClassCount(a) != own || all != impl.Terms || l[impl.Nil] != impl.Nil {
			t.Fatalf("ClassCount(%s) = %d, of %v", asnWord(a), impl.ClassCount(a), l)
		}
	}
}

func TestHeadsAreAsManyAsPieces(t *testing.T) {
	for _, a := range append(drawnAsns(1000), impl.Asn{}, fullAsn(0), fullAsn(3), fullAsn(6)) {
		heads := impl.Heads(a)
		pieces := slices.Concat(a.Cells, a.Segs)
		if len(heads) != len(pieces) {
			t.Fatalf("Heads(%s) = %v", asnWord(a), heads)
		}
		for i, p := range pieces {
			if heads[i] != impl.Classes(a)[p.A] {
				t.Fatalf("Heads(%s) = %v", asnWord(a), heads)
			}
			if at := impl.HeadAt(a, p.A); at < 0 || at > i || heads[at] != heads[i] {
				t.Fatalf("HeadAt(%s, %d) = %d", asnWord(a), p.A, at)
			}
		}
	}
}

func TestPureRefusesAssertions(t *testing.T) {
	for _, a := range wrongAsns() {
		n, ok := impl.Normal(a)
		if ok || !isZero(n) {
			t.Errorf("Normal(%s) = %s, %v", describe(a), describe(n), ok)
		}
		if len(impl.Classes(a)) != 0 || len(impl.Heads(a)) != 0 || impl.ClassCount(a) != 0 || impl.Contra(a) || impl.Opened(a) {
			t.Errorf("something is answered about %s", describe(a))
		}
		for _, x := range append([]int{0, 1, 2, 3, 15}, wrongTerms...) {
			if len(impl.Members(a, x)) != 0 || impl.HeadAt(a, x) != -1 || impl.Alike(a, x, x) || impl.Alike(a, x, 2) || impl.Unlike(a, x, 2) || impl.Unlike(a, 1, x) {
				t.Errorf("something is answered about %d in %s", x, describe(a))
			}
		}
	}
}

// A limit that is met is accepted: each of these is refused with one more.
func TestPureTakesWhatIsFull(t *testing.T) {
	for _, a := range []impl.Asn{fullAsn(0), fullAsn(3), fullAsn(6), {Eqs: repeated(impl.Pair{A: 1, B: 2}, impl.MaxPure)}, {Nes: repeated(impl.Pair{A: 1, B: 2}, impl.MaxPure)}, {Segs: repeated(impl.Pair{A: 1, B: 2}, impl.MaxSpace), Nes: repeated(impl.Pair{A: 2, B: 1}, 1)}} {
		checkPure(t, a)
	}
	many := impl.Asn{Nes: pairs{{A: 3, B: 4}}, Cells: repeated(impl.Pair{A: 1, B: 2}, impl.MaxSpace)}
	if !impl.Contra(many) || !impl.Opened(many) {
		t.Error("full of cells")
	}
	many.Cells = append(many.Cells, impl.Pair{A: 5, B: 2})
	if impl.Contra(many) || impl.Opened(many) {
		t.Error("one cell too many")
	}
}

func TestPureRefusesTerms(t *testing.T) {
	asns := []impl.Asn{{}, mustRead(t, "a=b a!b"), mustRead(t, "a!a nil!nil"), mustRead(t, "a>b nil>b"), mustRead(t, "_10>b")}
	for _, a := range append(drawnAsns(50), asns...) {
		for _, x := range wrongTerms {
			if len(impl.Members(a, x)) != 0 || impl.HeadAt(a, x) != -1 || impl.Alike(a, x, x) || impl.Unlike(a, x, x) {
				t.Errorf("something is answered about %d in %s", x, asnWord(a))
			}
			for y := range impl.Terms {
				if impl.Alike(a, x, y) || impl.Alike(a, y, x) || impl.Unlike(a, x, y) || impl.Unlike(a, y, x) {
					t.Errorf("something is answered about %d and %d in %s", x, y, asnWord(a))
				}
			}
		}
	}
}
