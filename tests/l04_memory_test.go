package tests

import (
	"math"
	"slices"
	"testing"

	"loop.example/g00621/impl"
)

func partsOfAll(l ...impl.Asn) []pairs {
	var out []pairs
	for _, a := range l {
		out = append(out, partsOf(a)...)
	}
	return out
}

// caseRooms have room, pieces that can be unfolded and folded, and lists that lie close together.
func caseRooms(t *testing.T) []*room {
	t.Helper()
	out := append(rooms(), sharedRoom(pairs{{A: 1, B: 2}}))
	asns := []impl.Asn{chain(impl.MaxSpace), chain(1)}
	for _, w := range []string{"a=c a!b c>a a..b", "b=b a!nil a>b b..nil", "c=d d!e e>nil a..b b..c nil..c", "a!b a>c c>nil a..b c..b", "a..a"} {
		asns = append(asns, mustRead(t, w))
	}
	drawnRoom(t, 60, func(_ *draw, _ impl.State, a impl.Asn, _ bool) { asns = append(asns, a) })
	for _, a := range asns {
		out = append(out, apartRoom(a), jointRoom(a))
	}
	return out
}

func TestCasesAreNewMemory(t *testing.T) {
	for _, r := range caseRooms(t) {
		l, _ := impl.Cases(r.asn)
		checkNew(t, "Cases", partsOfAll(l...), r)
		for seg := -1; seg <= min(len(r.asn.Segs), impl.MaxSpace); seg++ {
			u, _ := impl.Unfold(r.asn, seg)
			checkNew(t, "Unfold", partsOf(u), r)
			x, y, _ := impl.Split(r.asn, seg)
			checkNew(t, "Split", partsOfAll(x, y), r)
			for cell := -1; cell <= min(len(r.asn.Cells), impl.MaxSpace); cell++ {
				f, _ := impl.Fold(r.asn, cell, seg)
				checkNew(t, "Fold", partsOf(f), r)
			}
		}
		s, _ := impl.Witness(r.asn)
		want := cloneState(s)
		checkNewState(t, "Witness", &guard{}, s)
		if again, _ := impl.Witness(r.asn); !sameState(again, want) {
			t.Fatalf("Witness(%s) is another one", describe(r.asn))
		}
		impl.Possible(r.asn)
		impl.CountCases(r.asn)
		checkNew(t, "the others", nil, r)
	}
}

// Cases are told apart: a list of one of them can grow without another one.
func TestCasesShareNoSpareRoom(t *testing.T) {
	a := mustRead(t, "a=b c!d e>nil a..b b..c c..d")
	l, _ := impl.Cases(a)
	want := asnWords(l)
	for i := range l {
		for _, m := range partsOf(l[i]) {
			_ = append(m, mark, mark)
		}
	}
	if !slices.Equal(asnWords(l), want) {
		t.Errorf("Cases(%s) = %q", asnWord(a), asnWords(l))
	}
}

func TestCaseOfAndLengthsLeaveTheirArguments(t *testing.T) {
	drawnRoom(t, 300, func(_ *draw, s impl.State, a impl.Asn, held bool) {
		var g guard
		l := g.joint(s.Terms, s.Heap)
		v := impl.State{Terms: l[0], Heap: l[1]}
		r := jointRoom(a)
		if (impl.CaseOf(v, r.asn) >= 0) != held || g.touched() || r.touched() {
			t.Fatalf("CaseOf(%s, %s)", describeState(s), asnWord(a))
		}
		checkNewInts(t, "Lengths", &g, impl.Lengths(v, r.asn))
		checkNew(t, "Lengths", nil, r)
	})
}

// What an answer was is still so when an argument is changed afterwards.
func TestCasesDoNotFollowArguments(t *testing.T) {
	for _, r := range caseRooms(t) {
		if !impl.AsnOk(r.asn) {
			continue
		}
		want := asnWords(casesBy(r.asn))
		unfolded, _ := unfoldBy(r.asn, 0)
		folded, _ := foldBy(r.asn, 0, 0)
		first, second, _ := splitBy(r.asn, 0)
		wants := asnWords([]impl.Asn{unfolded, folded, first, second})
		l, _ := impl.Cases(r.asn)
		u, _ := impl.Unfold(r.asn, 0)
		f, _ := impl.Fold(r.asn, 0, 0)
		x, y, _ := impl.Split(r.asn, 0)
		for _, m := range r.memory {
			for i := range m {
				m[i] = impl.Pair{A: 9, B: 9}
			}
		}
		if !slices.Equal(asnWords(l), want) || !slices.Equal(asnWords([]impl.Asn{u, f, x, y}), wants) {
			t.Fatalf("an answer changed with its argument: %q, %q", asnWords(l), asnWords([]impl.Asn{u, f, x, y}))
		}
	}
}

// What is behind a list's length would be another segment, or one too many.
func TestCasesStopAtTheLength(t *testing.T) {
	m := pairs{{A: 1, B: 2}, {A: 2, B: 0}, {A: 99, B: -1}}
	a := impl.Asn{Eqs: m[:0], Nes: m[:0], Cells: m[:0], Segs: m[:1]}
	if l, ok := impl.Cases(a); !ok || !slices.Equal(asnWords(l), []string{"a=b", "a!b a..b"}) {
		t.Errorf("Cases reads behind the length: %q", asnWords(l))
	}
	if _, ok := impl.Unfold(a, 0); ok {
		t.Error("Unfold reads behind the length")
	}
	if _, _, ok := impl.Split(a, 1); ok {
		t.Error("Split reads behind the length")
	}
	a.Nes = m[:1]
	if _, ok := impl.Unfold(a, 1); ok {
		t.Error("Unfold reads behind the length")
	}
	if _, ok := impl.Fold(impl.Asn{Cells: m[:1], Segs: m[1:1]}, 0, 0); ok {
		t.Error("Fold reads behind the length")
	}
	if _, ok := impl.Fold(impl.Asn{Cells: m[:0], Segs: m[1:2]}, 0, 0); ok {
		t.Error("Fold reads behind the length")
	}
}

func TestNoCallOfCasesPanics(t *testing.T) {
	numbers := append([]int{0, 1, 2, 5, 6, 12, math.MaxInt - 1, math.MinInt + 1}, wrongTerms...)
	asns := append(wrongAsns(), impl.Asn{}, fullAsn(0), fullAsn(3), fullAsn(6), chain(6), allNames(), mustRead(t, "a!nil nil>nil nil..nil a..nil"), mustRead(t, "nil>nil nil..nil"))
	states := append(wrongStates()[:40], mustState(t, ""), mustState(t, "a=1 b=2 1>2 2>1"))
	for _, a := range asns {
		impl.Cases(a)
		impl.Possible(a)
		impl.CountCases(a)
		impl.Witness(a)
		for _, s := range states {
			impl.CaseOf(s, a)
			impl.Lengths(s, a)
		}
		for _, x := range numbers {
			impl.Unfold(a, x)
			impl.Split(a, x)
			for _, y := range numbers {
				impl.Fold(a, x, y)
			}
		}
	}
}

// No function keeps anything: an answer is the same again, whatever was asked in between.
func TestNothingIsKeptOfCases(t *testing.T) {
	var all []impl.Asn
	drawnRoom(t, 200, func(_ *draw, _ impl.State, a impl.Asn, _ bool) { all = append(all, a) })
	for i, a := range all {
		l, _ := impl.Cases(a)
		n, _ := impl.CountCases(a)
		s, _ := impl.Witness(a)
		u, _ := impl.Unfold(a, 0)
		other := all[(i+37)%len(all)]
		impl.Cases(other)
		impl.Witness(other)
		impl.Unfold(other, 0)
		impl.Fold(other, 0, 0)
		impl.Split(other, 0)
		again, _ := impl.Cases(a)
		m, _ := impl.CountCases(a)
		v, _ := impl.Witness(a)
		w, _ := impl.Unfold(a, 0)
		if !sameAsns(l, again) || n != m || !sameState(s, v) || !sameAsn(u, w) {
			t.Fatalf("an answer about %s is another one", asnWord(a))
		}
	}
}
