package tests

import (
	"slices"
	"testing"

	"loop.example/g00621/impl"
)

func TestConstantsOfVerdicts(t *testing.T) {
	got := []int{impl.VdHolds, impl.VdFault, impl.VdPost, impl.VdInv, impl.VdGave, impl.MaxStates}
	if !slices.Equal(got, []int{0, 1, 2, 3, 4, 40}) {
		t.Fatal("a number is not that of the document")
	}
}

// Each is what is given, and what is tidied; nothing: it is as it was.
var tidyTexts = []struct{ text, want string }{
	{"emp", ""},
	// Eqs of one term go.
	{"a=a", "emp"},
	{"nil=nil", "emp"},
	{"_1=_1", "emp"},
	{"a=a b=b a=b c=c", "a=b"},
	{"_1=_1 _1>a", "_1>a"},
	// Without a name they stay.
	{"a=b", ""},
	{"b=a", ""},
	{"a=nil", ""},
	{"nil=a", ""},
	{"a=b b=c c=a e=nil", ""},
	{"e=d a>e d>nil", ""},
	// A name on either side, and on both: the lesser stands where the greater one stood.
	{"_1=a _1>b", "a>b"},
	{"a=_1 _1>b", "a>b"},
	{"_1=a a>b", "a>b"},
	{"_1=nil a>_1", "a>nil"},
	{"nil=_1 a>_1", "a>nil"},
	{"nil=_1 _1>a", "nil>a"},
	{"_1=_2 _2>a", "_1>a"},
	{"_2=_1 _2>a", "_1>a"},
	{"_1=_2 _1>a", "_1>a"},
	{"_10=_9 _10>a", "_9>a"},
	{"_10=e _10>a", "e>a"},
	{"_1=e _1>a", "e>a"},
	{"_1=a", "emp"},
	{"_1=_2", "emp"},
	// In all four lists, on either side.
	{"_2=a _2=b c=_2 _2!c d!_2 _2>d c>_2 _2..e d.._2", "a=b c=a a!c d!a a>d c>a a..e d..a"},
	{"_2=_1 _2!c d!_2 _2>d c>_2 _2..e d.._2", "_1!c d!_1 _1>d c>_1 _1..e d.._1"},
	{"_1=a _1>_1 _1.._1", "a>a a..a"},
	// Others stay.
	{"_1=a _2>_1 _3.._2", "_2>a _3.._2"},
	{"_1=a _10>_1", "_10>a"},
	// The first one goes first: another one ahead of it would answer otherwise.
	{"_1=a _1=b", "a=b"},
	{"_1=b _1=a", "b=a"},
	{"a=_1 b=_1 c=_1", "b=a c=a"},
	{"b=_1 a=_1 c=_1", "a=b c=b"},
	{"_2=b _3=_2 _3=a", "b=a"},
	{"_3=a _3=_2 _2=b", "a=b"},
	{"_2=_1 _1=a _2=b", "a=b"},
	{"_2=b _2=_1 _1=a _1>c", "b=a b>c"},
	{"_1=a _1=b _1>c", "a=b a>c"},
	{"_1=b _1=a _1>c", "b=a b>c"},
	{"_1=a _2=b _1=_2 a>_2", "a=b a>b"},
	{"_1=_2 _1=a _2=b _2>_1", "a=b a>a"},
	{"_3=_2 _2=_1 _1=c _3>nil", "c>nil"},
	// What stays is passed over, and stays as it was.
	{"a=b _1=a", "a=b"},
	{"a=b _1=b a>_1", "a=b a>b"},
	{"a=b _1=c _1=b", "a=b c=b"},
	{"a=b b=b _1=_1 _1=a c=d _1=e", "a=b c=d a=e"},
	{"a=b a=a c=d", "a=b c=d"},
	// Of those that are the same the first is kept, either way about: in Eqs.
	{"a=b a=b", "a=b"},
	{"a=b b=a", "a=b"},
	{"b=a a=b", "b=a"},
	{"a=b c=d b=a d=c a=c c=a", "a=b c=d a=c"},
	{"a=b a=c a=b", "a=b a=c"},
	{"a=b a=_1 b=_1", "a=b"},
	{"_1=a b=_1 _1=b a=b", "b=a"},
	// In Nes.
	{"a!b a!b", "a!b"},
	{"a!b b!a", "a!b"},
	{"b!a a!b", "b!a"},
	{"b!c a!b c!b b!a b!c", "b!c a!b"},
	{"_1=a _1!b a!b", "a!b"},
	{"_1=a a!b b!_1", "a!b"},
	{"a!a a!a", "a!a"},
	{"_1!a a!_1 _1>b", "_1!a _1>b"},
	// One of Eqs and one of Nes are not the same, nor are two by their classes.
	{"a=b a!b", ""},
	{"a=b b!a", ""},
	{"a=b a!c b!c", ""},
	{"a=b b=c a=c", ""},
	// Of pieces those that are the same stay.
	{"a>b a>b b>a a..b a..b b..a", ""},
	{"_1=a a>b _1>b _1..c a..c", "a>b a>b a..c a..c"},
	// Nes with a name that no piece has go.
	{"_1!a", "emp"},
	{"a!_1", "emp"},
	{"_1!nil", "emp"},
	{"_1!_2", "emp"},
	{"_10!a", "emp"},
	{"_1!a b!c _2!b a>nil", "b!c a>nil"},
	{"_1!a _2>b", "_2>b"},
	{"_1!_2 _1>a", "_1>a"},
	{"_2!_1 _1>a", "_1>a"},
	{"_1!_2 a.._2", "a.._2"},
	{"_1!_2 _2!_1 _1>a", "_1>a"},
	// With a name that a piece has they stay: a cell or a segment, on either side.
	{"_1!a _1>b", ""},
	{"_1!a b>_1", ""},
	{"_1!a _1..b", ""},
	{"a!_1 b.._1", ""},
	{"_1!_2 _1>_2", ""},
	{"_1!_2 _1>a b.._2", ""},
	{"_10!_9 _9>_10", ""},
	// Others stay, be their terms in a piece or not.
	{"a!nil b!a e!d", ""},
	{"e!a _1>b", ""},
	// By the name that it has then: one that was another's is that one.
	{"_1=a _1!b", "a!b"},
	{"_1=_2 _2!a _1>b", "_1!a _1>b"},
	{"_1=_2 _2!a _2>b", "_1!a _1>b"},
	{"_1=_2 _2!a", "emp"},
	{"_2=a _1!_2 b>_1", "_1!a b>_1"},
	// One of one term stays, whatever it is: it holds nowhere.
	{"a!a", ""},
	{"nil!nil", ""},
	{"_1!_1", ""},
	{"_1!_1 _1!a _1!_1", "_1!_1"},
	{"_1=_2 _1!_2", "_1!_1"},
	{"_1=a _1!a", "a!a"},
	{"_1=nil nil!_1", "nil!nil"},
	// Names stay that only pieces have, and so does the order of all.
	{"_1>_2 _2.._3", ""},
	{"b!a a!nil c>a a>_3 _1>b d..a _3..nil", ""},
	// All at once.
	{"_1=a a=a _2!b a!b b!a _1>c", "a!b a>c"},
	{"c=b _2=_1 b=c _1=a a=_2 d=_3 _3!_1 a!d _4!a _1>_5 _5.._4", "c=b d!a _4!a a>_5 _5.._4"},
}

func TestTidyKnownOnes(t *testing.T) {
	for _, c := range tidyTexts {
		want := c.want
		if want == "" {
			want = c.text
		}
		got, ok := impl.Tidy(mustRead(t, c.text))
		if !ok || asnWord(got) != want {
			t.Errorf("Tidy(%q) = %q, %v, not %q", c.text, asnWord(got), ok, want)
		}
		checkTidy(t, mustRead(t, c.text))
	}
}

// Each pair of two terms in Eqs and in Nes, with and without a piece that has one of them.
func TestTidyOfEachPair(t *testing.T) {
	for x := range impl.Terms {
		for y := range impl.Terms {
			p := impl.Pair{A: x, B: y}
			for _, spaces := range []impl.Asn{{}, {Cells: pairs{{A: x, B: 1}}}, {Cells: pairs{{A: 1, B: y}}}, {Segs: pairs{{A: y, B: x}}}, {Cells: pairs{p}, Segs: pairs{p}}} {
				a := spaces
				a.Eqs = pairs{p}
				got := checkTidy(t, a)
				if isNameBy(max(x, y)) != (len(got.Eqs) == 0) && x != y || x == y && len(got.Eqs) > 0 {
					t.Errorf("Tidy(%s) = %s", asnWord(a), asnWord(got))
				}
				a = spaces
				a.Nes = pairs{p}
				checkTidy(t, a)
				a.Eqs = pairs{{A: y, B: 15}}
				checkTidy(t, a)
				a.Eqs = pairs{{A: y, B: 3}, {A: x, B: 2}}
				checkTidy(t, a)
			}
		}
	}
}

func TestTidyOfFullLists(t *testing.T) {
	for cells := range impl.MaxSpace + 1 {
		got := checkTidy(t, fullAsn(cells))
		if len(got.Eqs) != 0 || len(got.Nes) != 1 || len(got.Cells) != cells || len(got.Segs) != impl.MaxSpace-cells {
			t.Errorf("Tidy of what is full: %s", asnWord(got))
		}
	}
	if got := checkTidy(t, allNames()); !isZero(got) {
		t.Errorf("Tidy of all names: %s", asnWord(got))
	}
	// A chain of all names: all become the least, whichever way it is told.
	var up, down impl.Asn
	for x := 5; x < impl.Terms-1; x++ {
		up.Eqs = append(up.Eqs, impl.Pair{A: x, B: x + 1})
		down.Eqs = append(pairs{{A: x + 1, B: x}}, down.Eqs...)
	}
	for _, a := range []impl.Asn{up, down} {
		a.Cells = pairs{{A: 15, B: 14}, {A: 5, B: 6}}
		if got := checkTidy(t, a); asnWord(got) != "e>e e>e" {
			t.Errorf("Tidy(%s) = %s", asnWord(a), asnWord(got))
		}
	}
}

func TestTidyRefusesAssertions(t *testing.T) {
	for _, a := range wrongAsns() {
		if got, ok := impl.Tidy(a); ok || !isZero(got) {
			t.Errorf("Tidy(%s) = %s, %v", describe(a), describe(got), ok)
		}
	}
}

// named has more of Eqs and Nes with names, of terms that are, or are not, the same in s.
func (d *draw) named(s impl.State, a impl.Asn) impl.Asn {
	l := clonedLists(a)
	for range d.below(8) {
		x, y := impl.Vars+1+d.below(10), d.below(impl.Terms)
		if d.below(2) == 0 {
			y = d.termAt(s, s.Terms[x])
		}
		kind := 0
		if s.Terms[x] != s.Terms[y] {
			kind = 1
		}
		p := impl.Pair{A: x, B: y}
		if d.below(2) == 0 {
			p = impl.Pair{A: y, B: x}
		}
		if len(l[kind]) < impl.MaxPure {
			l[kind] = slices.Insert(l[kind], d.below(len(l[kind])+1), p)
		}
	}
	return asnOf(l)
}

// drawnNamed hands out drawn states, each with an assertion that has much to tidy, and holds or nearly does.
func drawnNamed(t *testing.T, n int, do func(d *draw, s impl.State, a impl.Asn, held bool)) {
	t.Helper()
	d := draw(71)
	held := 0
	for i := range n {
		s := d.state()
		a := d.named(s, d.asnAbout(s))
		if i%4 == 3 {
			a = d.bent(a)
		}
		if !impl.AsnOk(a) {
			continue
		}
		holds := holdsBy(s, a)
		if holds {
			held++
		}
		do(&d, s, a, holds)
	}
	if held < n/3 || held > n*7/8 {
		t.Fatalf("%d of %d hold", held, n)
	}
}

// What is tidied holds where it was not, with the same names; and where it does, it did with some names.
func TestWhatIsTidiedHolds(t *testing.T) {
	var fewer, forgot, back int
	drawnNamed(t, 12000, func(_ *draw, s impl.State, a impl.Asn, held bool) {
		got := checkTidy(t, a)
		if held && !impl.Holds(s, got) {
			t.Fatalf("Tidy(%s) = %s in %s", asnWord(a), asnWord(got), describeState(s))
		}
		if len(got.Eqs) < len(a.Eqs) {
			fewer++
		}
		if len(got.Nes) < len(a.Nes) {
			forgot++
		}
		// Of six that are forgotten each name can be another address than those that it has to be apart from.
		if len(a.Nes)-len(got.Nes) <= 6 && holdsBy(s, got) {
			back++
			if !holdsSomehow(s, a) {
				t.Fatalf("Tidy(%s) = %s, which holds in %s", asnWord(a), asnWord(got), describeState(s))
			}
		}
	})
	if min(fewer, forgot, back) < 2000 {
		t.Fatalf("%d with fewer of Eqs, %d of Nes, %d hold", fewer, forgot, back)
	}
}

// What is tidied is tidy: there is nothing more to do, and no name is told to be another term.
func TestWhatIsTidiedIsTidy(t *testing.T) {
	for i, a := range slices.Concat(drawnAsns(3000), smallAsns(t)) {
		got := checkTidy(t, a)
		if again, ok := impl.Tidy(got); !ok || !sameAsn(again, got) {
			t.Fatalf("%d: Tidy(%s) = %s", i, asnWord(got), asnWord(again))
		}
		for _, p := range got.Eqs {
			if p.A == p.B || p.A > impl.Vars || p.B > impl.Vars {
				t.Fatalf("Tidy(%s) = %s", asnWord(a), asnWord(got))
			}
		}
		if len(got.Cells) != len(a.Cells) || len(got.Segs) != len(a.Segs) || roomBy(a) && !roomBy(got) {
			t.Fatalf("Tidy(%s) = %s", asnWord(a), asnWord(got))
		}
	}
}
