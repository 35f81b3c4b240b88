package tests

import (
	"slices"
	"strings"
	"testing"

	"loop.example/g00621/impl"
)

// Each is what is opened, what is asked for, and what is left; nothing: it fails.
var matchTexts = []struct{ open, q, want string }{
	// Nothing on either side.
	{"emp", "emp", "emp"},
	{"a>b", "emp", "a>b"},
	{"a=b c!nil c>a c..nil", "emp", ""}, // contrary: two begin at c
	{"a=b c!nil d>a c..nil", "emp", "a=b c!nil d>a c..nil"},
	{"emp", "a>b", ""},
	{"emp", "a..b", ""},
	{"emp", "a=b", ""},
	{"emp", "a!b", ""},
	// Each of Eqs is of one class.
	{"emp", "a=a", "emp"},
	{"a=b", "b=a", "a=b"},
	{"a=b b=c", "a=c c=a", "a=b b=c"},
	{"a=b c=d", "a=b d=c", "a=b c=d"},
	{"a=b c=d", "a=b a=c", ""},
	{"a=b c=d", "a=c a=b", ""},
	{"a=nil b=nil", "a=b", "a=nil b=nil"},
	{"a!b", "a=b", ""},
	// Each of Nes is Unlike: by Nes, or by pieces.
	{"a!b", "b!a", "a!b"},
	{"a=c a!b", "b!c", "a=c a!b"},
	{"a=b", "a!b", ""},
	{"emp", "a!a", ""},
	{"a!b c!d", "a!b b!c", ""},
	{"a!b c!d", "b!c a!b", ""},
	{"a>c", "a!nil nil!a", "a>c"},
	{"a>c b>c", "a!b b!a", "a>c b>c"},
	{"a>c b>c", "a!c", ""},
	{"a!d a>c a..d", "a!b", ""}, // contrary
	{"b!d a>c b..d", "a!b b!nil d!b", "b!d a>c b..d"},
	{"b!d a>c b..d", "d!nil", ""},
	// What is taken off tells which are not the same all the same.
	{"a>c b>c", "a!b a>c b>c", "emp"},
	// A cell by the classes of A and of B.
	{"a>b", "a>b", "emp"},
	{"a>b", "a>c", ""},
	{"a>b", "c>b", ""},
	{"a>b", "b>a", ""},
	{"a=c b=d a>b", "c>d", "a=c b=d"},
	{"a=c a>b", "c>b", "a=c"},
	{"b=nil a>b", "a>nil", "b=nil"},
	{"a>b c>d", "c>d", "a>b"},
	{"a>b c>d", "a>b", "c>d"},
	{"a>b c>d e>nil", "e>nil a>b", "c>d"},
	{"a>a", "a>a", "emp"},
	{"a!b a..b", "a>b", ""}, // a segment is no cell
	{"a>b", "nil>b", ""},
	// Each piece is taken off once.
	{"a>b", "a>b a>b", ""},
	{"a>nil", "a>nil a..nil", ""},
	{"a!nil a..nil", "a..nil a..nil", ""},
	{"a>b b>nil", "a..nil b..nil", ""},
	{"a>b b>nil", "b>nil a..nil", ""},
	{"a>b b>nil", "b..nil a..b", "emp"},
	// A segment whose two ends are of one class takes nothing.
	{"emp", "a..a", "emp"},
	{"emp", "nil..nil", "emp"},
	{"a>nil", "a..a", "a>nil"},
	{"a>a", "a..a", "a>a"},
	{"a=b a>nil", "b..a", "a=b a>nil"},
	{"a=nil", "a..nil nil..a", "a=nil"},
	{"a=b b=c a!nil a..nil", "a..c c..b c..nil", "a=b b=c a!nil"},
	// By a cell that is Unlike B: by Nes, by Nil, by a piece there.
	{"a>b", "a..b", ""},
	{"a!b a>b", "a..b", "a!b"},
	{"b!a a>b", "a..b", "b!a"},
	{"a!c a>b", "a..b", ""},
	{"a>nil", "a..nil", "emp"},
	{"b=nil a>b", "a..b", "b=nil"},
	{"a>b b>nil", "a..b", "b>nil"},
	{"a>b b>nil", "b>nil a..b", "emp"}, // that piece was taken off already
	{"b!c a>b b..c", "a..b", "b!c b..c"},
	{"b!c a>b b..c", "b..c a..b", "b!c"},
	{"b=d a>b d>nil", "a..b", "b=d d>nil"},
	{"a>b c>nil", "a..b", ""},
	{"a>a", "a..b", ""},
	{"a!b a>a", "a..b", ""}, // it comes back to where none is left
	{"a!c b!c a>b b>a", "a..c", ""},
	{"a!c a>b b>c", "a..c", ""}, // the second may be c already
	{"b!c a>b b>c", "a..c", ""}, // so may the first
	{"a!c b!c a>b b>c", "a..c", "a!c b!c"},
	{"a!c b!c a>b b>c", "a..b b..c", "a!c b!c"},
	{"a>b b>c c>nil", "a..c", "c>nil"},
	{"a>b b>c c>nil", "a..nil", "emp"},
	{"a>b b>c c>nil", "b..nil", "a>b"},
	{"a>b b>nil c>nil", "a..nil", "c>nil"},
	{"a>b", "a..nil", ""},
	{"a>b c>nil", "a..nil", ""},
	{"a=d b=e d>b e>nil", "a..nil", "a=d b=e"},
	// By a segment: its B is of the class of q's B, and no more.
	{"a!b a..b", "a..b", "a!b"},
	{"a=c b=d a!b a..b", "c..d", "a=c b=d a!b"},
	{"a!b b!c a..b b..c", "a..b b..c", "a!b b!c"},
	{"a!b b!c a..b b..c", "b..c", "a!b b!c a..b"},
	{"a!b a..b", "b..a", ""},
	{"a!b a..b", "a..c", ""},
	// By a segment: q's B is Nil, and no more.
	{"a!b b!nil a..b b..nil", "a..nil", "a!b b!nil"},
	{"c=nil a!b b!c a..b b..c", "a..c", "c=nil a!b b!c"},
	{"a!b b>nil a..b", "a..nil", "a!b"},
	{"a!b b!nil b>nil a..b", "a..nil", "a!b b!nil"},
	// By a segment: a piece begins at q's B, and no more; a cell, or another segment.
	{"a!b b!c c>nil a..b b..c", "a..c", "a!b b!c c>nil"},
	{"a!b b!c c!d a..b b..c c..d", "a..c", "a!b b!c c!d c..d"},
	{"c=e a!b b!c e>nil a..b b..c", "a..c", "c=e a!b b!c e>nil"},
	{"a!b b!c c!d c..d b..c a..b", "a..c", "a!b b!c c!d c..d"},
	{"a!b c>nil b>c a..b", "a..c", "a!b c>nil"},
	{"a!b b>c c>nil a..b", "a..c", "a!b c>nil"},
	// Of all, be it taken off by a cell or by a segment.
	{"a!b b!c c>nil a..b b..c", "c>nil a..c", "a!b b!c"},
	{"a!b b!c c!d a..b b..c c..d", "c..d a..c", "a!b b!c c!d"},
	{"a!b b!c c!d a..b b..c c..d", "a..c c..d", "a!b b!c c!d"},
	// By a segment: none of these.
	{"a!b b!c a..b b..c", "a..c", ""},
	{"a!c a!b b!c a..b b..c", "a..c", ""}, // that the ends are not the same is not enough
	{"a!b a!c b!c d>c a..b b..c", "a..c", ""},
	{"a!b b!c b>c a..b", "a..c", ""},
	// Where a way begins at Nil there is none.
	{"emp", "nil..a", ""},
	{"a>nil", "nil..a", ""},
	{"b=nil a!b a..b", "a..c", ""},
	// What is left stands as it stood, with all of Eqs and Nes.
	{"d=e e=d a!nil a!nil c>a a>b b>nil _1>c", "a>b b..nil", "d=e e=d a!nil a!nil c>a _1>c"},
	{"d!e c!a _1!_2 b!nil c>_1 _3>a d..e _1.._2 c..a b..nil", "_1.._2", ""},
	{"d!e c!a _1!_2 b!nil _3>a d..e _1.._2 c..a b..nil", "_1.._2", "d!e c!a _1!_2 b!nil _3>a d..e c..a b..nil"},
	{"d!e c!a _1!_2 b!nil _3>a d..e _1.._2 c..a b..nil", "_3>a b..nil d..e", "d!e c!a _1!_2 b!nil _1.._2 c..a"},
	// The first is not opened, or Contra.
	{"a..nil", "a..nil", ""},
	{"a..nil", "emp", ""},
	{"a!b a..nil", "emp", ""},
	{"a!nil a..nil b..nil", "a..nil", ""},
	{"nil!a a..nil", "a..nil", "nil!a"},
	{"b=nil a!b a..nil", "a..nil", "b=nil a!b"},
	{"a!a", "a!a", ""},
	{"a!a", "emp", ""},
	{"nil>a", "nil>a", ""},
	{"a=nil a>b", "a>b", ""},
	{"a>b a>b", "a>b", ""},
	{"a=b a>c b>c", "a>c", ""},
	// The second need not be opened, and may be contrary.
	{"a=nil", "a..nil a..nil", "a=nil"},
	{"a>b", "a!a", ""},
}

func TestMatchKnownOnes(t *testing.T) {
	for _, c := range matchTexts {
		open, q := mustRead(t, c.open), mustRead(t, c.q)
		left, ok := impl.Match(open, q)
		if ok != (c.want != "") || ok && asnWord(left) != c.want || !ok && !isZero(left) {
			t.Errorf("Match(%q, %q) = %q, %v", c.open, c.q, asnWord(left), ok)
		}
		checkFollows(t, open, q)
	}
}

// Each is p, q, and whether it follows.
var followTexts = []struct {
	p, q string
	want bool
}{
	{"emp", "emp", true},
	{"a>nil", "emp", false}, // a piece is left
	{"a!nil a..nil", "emp", false},
	{"a..nil", "emp", false},
	{"emp", "a>nil", false},
	{"emp", "a..b", false},
	{"emp", "a..a", true},
	{"a=b", "a..b", true},
	{"a..a", "emp", true},
	{"nil..a", "a=nil", true},
	{"a=nil a..b", "b=nil", true},
	{"a..b", "a..b", true},
	{"a..b", "b..a", false},
	{"a..nil", "a!nil a..nil", false},
	{"a!nil a..nil", "a..nil", true},
	{"a>b b..nil", "a..nil", true},
	{"a>b b..c", "a..c", false},
	{"a!c a>b b..c", "a..c", true},
	{"c>nil a>b b..c", "c>nil a..c", true},
	{"b>nil a..b", "a..nil", true},
	{"b>c a..b", "a..c", false},
	{"b!c b>c a..b", "a..c", false},
	{"a!c b!c b>c a..b", "a..c", false},
	{"b>c c>nil a..b", "c>nil a..c", true},
	{"a..b b..nil", "a..nil", true},
	{"a..b b..c", "a..c", false},
	{"a!c a..b b..c", "a..c", false},
	{"a..b b..c c..nil", "a..nil", true},
	{"a..b b..c c..nil", "a..c c..nil", true}, // where c..nil has nothing, c is nil
	{"c!nil a..b b..c c..nil", "a..c c..nil", true},
	{"c>d a..b b..c", "c>d a..c", true},
	{"c!d a..b b..c c..d", "a..c c..d", true},
	{"a..b b..c c..d", "a..c c..d", false},
	{"a>b", "a..b", false},
	{"a!b a>b", "a..b", true},
	{"a>nil b>nil", "a!b a>nil b>nil", true},
	{"a>nil b>nil", "a!b a>nil", false},
	{"a>a", "a..a", false},
	{"a>a", "a..nil", false},
	{"a>b b>a", "a..b b..a", true},
	{"a>b b>a", "a..a", false},
	{"a..b a..c", "a..b", false},
	{"a..b a..b", "a=b", true},
	{"a..nil b..nil", "b..nil a..nil", true},
	{"a..nil b..nil", "a!b a..nil b..nil", false},
	{"a!nil b!nil a..nil b..nil", "a!b a..nil b..nil", true},
	{"a=b b=c a>d", "c>d", true},
	// All of them are contrary: there is no case, and all follow.
	{"a!a", "a>b", true},
	{"a!a", "emp", true},
	{"a!a", "a=b a!a nil>nil a..b", true},
	{"a>b a>b", "a..c", true},
	{"nil>a b..c", "b=c", true},
	{"a!b a>nil a..b", "a!a", true},
	// Nothing follows into what is contrary, but from that.
	{"emp", "a!a", false},
	{"a>b", "a>b a>b", false},
	{"a>b", "nil>b", false},
}

func TestEntailsKnownOnes(t *testing.T) {
	states := statesOfThree()
	for _, c := range followTexts {
		p, q := mustRead(t, c.p), mustRead(t, c.q)
		if is, ok := impl.Entails(p, q); is != c.want || !ok {
			t.Errorf("Entails(%q, %q) = %v, %v", c.p, c.q, is, ok)
		}
		checkFollows(t, p, q)
		for _, s := range states {
			if c.want && impl.Holds(s, p) && !impl.Holds(s, q) {
				t.Fatalf("%q, but not %q in %s", c.p, c.q, describeState(s))
			}
		}
	}
}

// A segment that is gone over for none of the three reasons may have the end in it: both hold there, but not the whole.
func TestSegmentsWantAReason(t *testing.T) {
	s := mustState(t, "a=1 b=3 c=2 1>2 2>3 3>2")
	p, q := mustRead(t, "a!c a..b b..c"), mustRead(t, "a..c")
	if !impl.Holds(s, p) || impl.Holds(s, q) || !impl.Refuted(s, p, q) {
		t.Error("the end is on the way")
	}
	if is, ok := impl.Entails(p, q); is || !ok {
		t.Error("the end may be on the way")
	}
	s = mustState(t, "a=1 b=1 1>1")
	p, q = mustRead(t, "a>b"), mustRead(t, "a..b")
	if is, ok := impl.Entails(p, q); is || !ok || !impl.Refuted(s, p, q) {
		t.Error("the end may be the cell")
	}
}

func TestFramesKnownOnes(t *testing.T) {
	for _, c := range []struct{ p, q, want string }{
		{"emp", "emp", "emp"},
		{"a>b c>nil", "c>nil", "a>b"},
		{"a>b c>nil", "emp", "a>b c>nil"},
		{"a>b c>nil", "a>b c>nil", "emp"},
		{"a>b c>nil", "d>nil", "-"},
		{"a..b", "emp", "a=b; a!b a..b"},
		{"a..b", "a..b", "a=b; a!b"},
		{"a..b b..nil", "a..nil", "a=b b=nil; a=b b!nil; b=nil a!b; a!b b!nil"},
		{"a..b b..nil", "b..nil", "a=b b=nil; a=b b!nil; b=nil a!b a..b; a!b b!nil a..b"},
		{"a..b b..nil", "a..b", "a=b b=nil; a=b b!nil b..nil; b=nil a!b; a!b b!nil b..nil"},
		{"a..b b..nil", "a!nil", "-"}, // it fails in the first alone
		{"a..b", "a=b", "-"},          // it fails in the last alone
		{"c=d d!e e>nil a..b", "e>nil", "c=d a=b d!e; c=d d!e a!b a..b"},
		{"a!b a..b", "a..b", "a!b a!b"},
		// There is no case: nothing is left in none.
		{"a!a", "a>b", ""},
		{"a!a c..d", "emp", ""},
	} {
		l, ok := impl.Frames(mustRead(t, c.p), mustRead(t, c.q))
		got := strings.Join(asnWords(l), "; ")
		if c.want == "-" && (ok || len(l) != 0) || c.want != "-" && (!ok || got != c.want) {
			t.Errorf("Frames(%q, %q) = %q, %v", c.p, c.q, got, ok)
		}
	}
}

func TestSameKnownOnes(t *testing.T) {
	for _, c := range []struct {
		p, q string
		want bool
	}{
		{"emp", "emp", true},
		{"emp", "a..a", true},
		{"a=nil", "nil..a", true},
		{"a=b", "b=a", true},
		{"a=b a>c", "a=b b>c", true},
		{"a>nil b>nil", "a!b b>nil a>nil", true},
		{"a!nil a..nil", "nil!a a..nil", true},
		{"a!a", "b>c b>d", true},  // both are nowhere
		{"a!a", "emp", false},     // one way
		{"a!b a>b", "a>b", false}, // one way
		{"a>b b..nil", "a..nil", false},
		{"a>b", "b>a", false},
		{"a..nil", "a!nil a..nil", false},
		{"a>nil", "emp", false},
	} {
		p, q := mustRead(t, c.p), mustRead(t, c.q)
		for range 2 {
			if is, ok := impl.Same(p, q); is != c.want || !ok {
				t.Errorf("Same(%q, %q) = %v, %v", asnWord(p), asnWord(q), is, ok)
			}
			p, q = q, p
		}
	}
}

// noRoom has segments for which Eqs, or Nes, leave just one place too few; what there is room for comes first.
func noRoom(t *testing.T, text string) (impl.Asn, []impl.Asn) {
	t.Helper()
	a := mustRead(t, text)
	a.Eqs = append(a.Eqs, repeated(impl.Pair{A: 4, B: 4}, impl.MaxPure-len(a.Segs)-len(a.Eqs))...)
	more, other := a, a
	more.Eqs = append(slices.Clone(a.Eqs), impl.Pair{A: 4, B: 4})
	other.Eqs = nil
	other.Nes = append(slices.Clone(a.Nes), repeated(impl.Pair{A: 1, B: 0}, impl.MaxPure+1-len(a.Segs)-len(a.Nes))...)
	for _, b := range []impl.Asn{more, other} {
		if !impl.AsnOk(b) || roomBy(b) || !roomBy(a) {
			t.Fatalf("room for %s", asnWord(b))
		}
	}
	return a, []impl.Asn{more, other}
}

func checkNoneFollows(t *testing.T, p, q impl.Asn) {
	t.Helper()
	if is, ok := impl.Entails(p, q); is || ok {
		t.Errorf("Entails(%s; %s) = %v, %v", describe(p), describe(q), is, ok)
	}
	if l, ok := impl.Frames(p, q); len(l) != 0 || ok {
		t.Errorf("Frames(%s; %s) = %v, %v", describe(p), describe(q), l, ok)
	}
}

func checkNotSame(t *testing.T, p, q impl.Asn) {
	t.Helper()
	for range 2 {
		if is, ok := impl.Same(p, q); is || ok {
			t.Errorf("Same(%s; %s) = %v, %v", describe(p), describe(q), is, ok)
		}
		p, q = q, p
	}
}

func TestFollowsAsksForRoom(t *testing.T) {
	for _, text := range []string{"a!nil a..nil", "a!nil b!nil a..nil b..nil", "a!nil a..b b..c c..d d..e e..nil"} {
		p, without := noRoom(t, text)
		checkFollows(t, p, p)
		if is, ok := impl.Entails(p, p); !is || !ok {
			t.Errorf("Entails(%s; itself) = %v, %v", asnWord(p), is, ok)
		}
		for _, q := range without {
			checkNoneFollows(t, q, p)
			checkNoneFollows(t, q, q)
			checkNoneFollows(t, q, impl.Asn{})
			checkNotSame(t, p, q)
			checkNotSame(t, q, q)
			checkNotSame(t, q, mustRead(t, "a!a"))
			if i := impl.Weaker(q, []impl.Asn{q, p, {}}); i != -1 {
				t.Errorf("Weaker(%s) = %d", asnWord(q), i)
			}
			// What is asked for wants no room.
			if is, ok := impl.Entails(p, q); !is || !ok {
				t.Errorf("Entails(%s; %s) = %v, %v", asnWord(p), asnWord(q), is, ok)
			}
			if i := impl.Weaker(p, []impl.Asn{q}); i != 0 {
				t.Errorf("Weaker(%s; %s) = %d", asnWord(p), asnWord(q), i)
			}
			checkFollows(t, p, q)
			checkFollows(t, q, p)
		}
	}
	// One that is opened wants none, either.
	_, without := noRoom(t, "a!nil a..nil")
	for _, open := range without {
		left, ok := impl.Match(open, mustRead(t, "a..nil"))
		if want, _ := impl.Without(open, 3, 0); !ok || !sameAsn(left, want) {
			t.Errorf("Match(%s) = %s, %v", asnWord(open), asnWord(left), ok)
		}
		checkMatched(t, open, open)
	}
}

// What is not AsnOk is refused, be it asked of what holds nowhere.
func TestFollowsRefusesAssertions(t *testing.T) {
	good := []impl.Asn{{}, mustRead(t, "a=b c!nil d>nil c..nil"), mustRead(t, "a!a"), mustRead(t, "a>b a>b")}
	s := mustState(t, "c=1 d=2 1>0 2>0")
	for _, bad := range wrongAsns() {
		for _, a := range good {
			checkNoneFollows(t, a, bad)
			checkNoneFollows(t, bad, a)
			checkNotSame(t, a, bad)
			if left, ok := impl.Match(a, bad); ok || !isZero(left) {
				t.Errorf("Match(%s; %s) = %s, %v", describe(a), describe(bad), describe(left), ok)
			}
			if left, ok := impl.Match(bad, a); ok || !isZero(left) {
				t.Errorf("Match(%s; %s) = %s, %v", describe(bad), describe(a), describe(left), ok)
			}
			if impl.PureFollows(a, bad) || impl.PureFollows(bad, a) {
				t.Errorf("PureFollows(%s; %s)", describe(a), describe(bad))
			}
			if impl.Refuted(s, a, bad) || impl.Refuted(s, bad, a) {
				t.Errorf("Refuted(%s; %s)", describe(a), describe(bad))
			}
			if i := impl.Weaker(a, []impl.Asn{bad, bad}); i != -1 {
				t.Errorf("Weaker(%s; %s) = %d", describe(a), describe(bad), i)
			}
			if i := impl.Weaker(bad, []impl.Asn{a, bad}); i != -1 {
				t.Errorf("Weaker(%s; %s) = %d", describe(bad), describe(a), i)
			}
		}
		if a := impl.PureOf(bad); !isZero(a) {
			t.Errorf("PureOf(%s) = %s", describe(bad), describe(a))
		}
		for _, p := range (pairs{{A: 1, B: 2}, {A: 1, B: 1}}) {
			if left, ok := impl.TakeCell(bad, p); ok || !isZero(left) {
				t.Errorf("TakeCell(%s) = %s, %v", describe(bad), describe(left), ok)
			}
			if left, ok := impl.TakeSeg(bad, p); ok || !isZero(left) {
				t.Errorf("TakeSeg(%s) = %s, %v", describe(bad), describe(left), ok)
			}
		}
	}
}

func TestRefutedKnownOnes(t *testing.T) {
	for _, c := range []struct {
		state, p, q string
		want        bool
	}{
		{"a=1 1>0", "a>nil", "b..nil", true},
		{"a=1 1>0", "a>nil", "a..nil", false},
		{"a=1 1>0", "emp", "b..nil", false}, // p does not hold, either
		{"a=1 1>0", "emp", "a>nil", false},
		{"", "emp", "a!nil", true},
		{"", "emp", "emp", false},
		{"a=1 b=1 1>1", "a>b", "a..b", true},
		{"a=1 b=2 1>2", "a>b", "a..b", false},
		{"", "emp", "a!a", true},
		{"", "a!a", "a!a", false},
	} {
		if impl.Refuted(mustState(t, c.state), mustRead(t, c.p), mustRead(t, c.q)) != c.want {
			t.Errorf("Refuted(%q, %q, %q) = %v", c.state, c.p, c.q, !c.want)
		}
	}
	for _, s := range wrongStates() {
		for _, w := range []string{"emp", "a=a", "a>c", "a>c c..nil"} {
			if impl.Refuted(s, mustRead(t, w), mustRead(t, "a!a")) {
				t.Errorf("Refuted(%s, %q)", describeState(s), w)
			}
		}
	}
}

func TestPureKnownOnes(t *testing.T) {
	for text, want := range map[string]string{
		"emp":                 "emp",
		"a=b a>c":             "a=b",
		"a!b a>c":             "a!b",
		"a>c a..b":            "emp",
		"a=b b=a a!b":         "a=b b=a a!b",
		"c=d a=b e!a a>c":     "c=d a=b e!a",
		"c=d e!a e!a a..c":    "c=d e!a e!a",
		"nil=nil nil!nil a>a": "nil=nil nil!nil",
	} {
		if got := asnWord(impl.PureOf(mustRead(t, text))); got != want {
			t.Errorf("PureOf(%q) = %q", text, got)
		}
	}
	for _, c := range []struct {
		open, q string
		want    bool
	}{
		{"emp", "emp", true},
		{"emp", "a>b b..c", true}, // pieces are not asked
		{"a>b", "a!nil c>d", true},
		{"a>b", "a=a a!nil a>b a>b", true},
		{"a>b", "a!b a>b", false},
		{"a=b", "b=a b..c", true},
		{"a=b", "a=c", false},
		{"a>b c>b", "a!c", true},
		{"a!nil a..nil", "nil!a", true},
		{"a..nil", "emp", false}, // it is not opened
		{"a=b a..nil", "a=b", false},
		{"a!a", "emp", false}, // it is contrary
		{"a=b a>c b>c", "a=b", false},
	} {
		if impl.PureFollows(mustRead(t, c.open), mustRead(t, c.q)) != c.want {
			t.Errorf("PureFollows(%q, %q) = %v", c.open, c.q, !c.want)
		}
	}
}

func TestTakeKnownOnes(t *testing.T) {
	open := mustRead(t, "e=b a!b c!nil a>e b>c c..nil")
	for _, c := range []struct {
		p         impl.Pair
		cell, seg string // nothing: it is refused
	}{
		{impl.Pair{A: 1, B: 2}, "e=b a!b c!nil b>c c..nil", "e=b a!b c!nil b>c c..nil"},
		{impl.Pair{A: 1, B: 5}, "e=b a!b c!nil b>c c..nil", "e=b a!b c!nil b>c c..nil"},
		{impl.Pair{A: 5, B: 3}, "e=b a!b c!nil a>e c..nil", "e=b a!b c!nil a>e c..nil"},
		{impl.Pair{A: 3, B: 0}, "", "e=b a!b c!nil a>e b>c"},
		{impl.Pair{A: 1, B: 3}, "", "e=b a!b c!nil c..nil"},
		{impl.Pair{A: 1, B: 0}, "", "e=b a!b c!nil"},
		{impl.Pair{A: 1, B: 1}, "", "e=b a!b c!nil a>e b>c c..nil"},
		{impl.Pair{A: 5, B: 2}, "", "e=b a!b c!nil a>e b>c c..nil"},
		{impl.Pair{A: 4, B: 4}, "", "e=b a!b c!nil a>e b>c c..nil"},
		{impl.Pair{A: 1, B: 4}, "", ""},
		{impl.Pair{A: 0, B: 1}, "", ""},
		{impl.Pair{A: 2, B: 1}, "", ""},
	} {
		if left, ok := impl.TakeCell(open, c.p); ok != (c.cell != "") || ok && asnWord(left) != c.cell || !ok && !isZero(left) {
			t.Errorf("TakeCell(%v) = %q, %v", c.p, asnWord(left), ok)
		}
		if left, ok := impl.TakeSeg(open, c.p); ok != (c.seg != "") || ok && asnWord(left) != c.seg || !ok && !isZero(left) {
			t.Errorf("TakeSeg(%v) = %q, %v", c.p, asnWord(left), ok)
		}
	}
	for _, text := range []string{"a..nil", "a!b a>nil a..nil", "a!a a>nil", "a>nil a>nil", "nil>nil"} {
		for _, p := range (pairs{{A: 1, B: 0}, {A: 0, B: 0}, {A: 1, B: 1}}) {
			if left, ok := impl.TakeCell(mustRead(t, text), p); ok || !isZero(left) {
				t.Errorf("TakeCell(%q, %v) = %q, %v", text, p, asnWord(left), ok)
			}
			if left, ok := impl.TakeSeg(mustRead(t, text), p); ok || !isZero(left) {
				t.Errorf("TakeSeg(%q, %v) = %q, %v", text, p, asnWord(left), ok)
			}
		}
	}
}

func TestTermsOfTakeAreAsked(t *testing.T) {
	open := mustRead(t, "a=b a>nil")
	for _, x := range wrongTerms {
		for _, p := range (pairs{{A: x, B: 0}, {A: 1, B: x}, {A: x, B: x}, {A: x, B: 1}}) {
			for _, a := range []impl.Asn{open, {}} {
				if left, ok := impl.TakeCell(a, p); ok || !isZero(left) {
					t.Errorf("TakeCell(%v) = %q, %v", p, asnWord(left), ok)
				}
				if left, ok := impl.TakeSeg(a, p); ok || !isZero(left) {
					t.Errorf("TakeSeg(%v) = %q, %v", p, asnWord(left), ok)
				}
			}
		}
	}
	if _, ok := impl.TakeSeg(open, impl.Pair{A: impl.Terms - 1, B: impl.Terms - 1}); !ok {
		t.Error("TakeSeg of the last term")
	}
}

func TestWeakerKnownOnes(t *testing.T) {
	bad := wrongAsns()[0]
	for _, c := range []struct {
		p    string
		l    []string // nothing: one that is not AsnOk
		want int
	}{
		{"emp", nil, -1},
		{"emp", []string{"emp"}, 0},
		{"emp", []string{"a>b", "a=b", "emp"}, 2},
		{"a>nil", []string{"emp", "b..nil", "a..nil", "a>nil"}, 2},
		{"a>nil", []string{"a>nil", "a..nil"}, 0},
		{"a>nil", []string{"", "a>nil"}, 1},
		{"a>nil", []string{"", ""}, -1},
		{"a>nil", []string{"", "emp", "", "a..nil", ""}, 3},
		{"a>nil", []string{"b>nil", "emp"}, -1},
		{"a..b b..nil", []string{"a..b", "a!b a..nil", "a..nil"}, 2},
		{"a!a", []string{"", "a>b", "emp"}, 1},
		{"a!a", []string{"", "", ""}, -1},
		{"a!a", nil, -1},
	} {
		var l []impl.Asn
		for _, w := range c.l {
			if w == "" {
				l = append(l, bad)
			} else {
				l = append(l, mustRead(t, w))
			}
		}
		if i := impl.Weaker(mustRead(t, c.p), l); i != c.want {
			t.Errorf("Weaker(%q, %q) = %d", c.p, c.l, i)
		}
	}
}

// A list of just 100 is asked to its end; one more is too many, wherever the first is.
func TestWeakerTakesAHundred(t *testing.T) {
	p, no := mustRead(t, "a>nil"), mustRead(t, "b>nil")
	for _, n := range []int{1, 99, 100, 101, 102, 200, 5000} {
		for _, at := range []int{0, n / 2, n - 1} {
			l := slices.Repeat([]impl.Asn{no}, n)
			l[at] = p
			want := at
			if n > 100 {
				want = -1
			}
			if i := impl.Weaker(p, l); i != want {
				t.Errorf("Weaker of %d, %d = %d", n, at, i)
			}
		}
		if i := impl.Weaker(p, slices.Repeat([]impl.Asn{no}, n)); i != -1 {
			t.Errorf("Weaker of %d = %d", n, i)
		}
	}
	// Those that are not AsnOk are counted, too.
	l := append([]impl.Asn{p}, wrongAsns()[:99]...)
	if i := impl.Weaker(p, l); i != 0 {
		t.Errorf("Weaker of 100 = %d", i)
	}
	if i := impl.Weaker(p, append(l, wrongAsns()[0])); i != -1 {
		t.Errorf("Weaker of 101 = %d", i)
	}
}
