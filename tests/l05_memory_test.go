package tests

import (
	"slices"
	"testing"

	"loop.example/g00621/impl"
)

// roomsOfTwo have one that is opened, or not, and what is asked of it, each with all the memory behind it.
func roomsOfTwo(t *testing.T) [][2]*room {
	t.Helper()
	var out [][2]*room
	add := func(p, q impl.Asn) {
		out = append(out, [2]*room{apartRoom(p), apartRoom(q)}, [2]*room{jointRoom(p), jointRoom(q)}, [2]*room{apartRoom(p), jointRoom(q)})
	}
	for _, c := range matchTexts {
		add(mustRead(t, c.open), mustRead(t, c.q))
	}
	for _, c := range followTexts {
		add(mustRead(t, c.p), mustRead(t, c.q))
	}
	drawnAsked(t, 200, func(_ *draw, _ impl.State, p, q impl.Asn, _ bool) { add(p, q) })
	drawnMatches(t, 200, func(_ *draw, _ impl.State, open, q impl.Asn) { add(open, q) })
	for _, bad := range wrongAsns()[:12] {
		add(bad, impl.Asn{})
		add(chain(3), bad)
	}
	for _, n := range []int{0, 1, impl.MaxSpace} {
		add(chain(n), chain(n))
		r := jointRoom(chain(n))
		out = append(out, [2]*room{r, r})
	}
	// Lists that are one: Nes of a cell, and a segment that opens itself.
	for _, p := range (pairs{{A: 1, B: 2}, {A: 1, B: 0}}) {
		m := repeated(p, 1)
		r := &room{asn: impl.Asn{Nes: m, Segs: m}, memory: []pairs{m}}
		r.note()
		out = append(out, [2]*room{r, r}, [2]*room{r, apartRoom(impl.Asn{})}, [2]*room{r, sharedRoom(m)})
	}
	return out
}

func TestFollowsIsNewMemory(t *testing.T) {
	matched, framed := 0, 0
	for _, r := range roomsOfTwo(t) {
		p, q := r[0].asn, r[1].asn
		left, ok := impl.Match(p, q)
		if ok {
			matched++
		}
		checkNew(t, "Match", partsOf(left), r[0], r[1])
		l, ok := impl.Frames(p, q)
		if ok && len(l) > 1 {
			framed++
		}
		checkNew(t, "Frames", partsOfAll(l...), r[0], r[1])
		checkNew(t, "PureOf", partsOf(impl.PureOf(p)), r[0])
		for _, x := range slices.Concat(q.Cells, q.Segs, pairs{{A: 1, B: 1}, {A: 1, B: 0}, {A: -1, B: 16}}) {
			left, _ = impl.TakeCell(p, x)
			checkNew(t, "TakeCell", partsOf(left), r[0], r[1])
			left, _ = impl.TakeSeg(p, x)
			checkNew(t, "TakeSeg", partsOf(left), r[0], r[1])
		}
		impl.Entails(p, q)
		impl.Same(p, q)
		impl.PureFollows(p, q)
		impl.Weaker(p, []impl.Asn{q, p, q})
		impl.Refuted(impl.State{Terms: termsWith(1, 2), Heap: heapWith(2, 0)}, p, q)
		checkNew(t, "the others", nil, r[0], r[1])
	}
	if matched < 100 || framed < 20 {
		t.Fatalf("%d are matched, %d have frames", matched, framed)
	}
}

// What is left in the cases is told apart: a list of one of them can grow without another one.
func TestFramesShareNoSpareRoom(t *testing.T) {
	p, q := mustRead(t, "a=b c!d e>nil _1>nil a..b b..c c..d"), mustRead(t, "e>nil")
	l, ok := impl.Frames(p, q)
	want := asnWords(l)
	for i := range l {
		for _, m := range partsOf(l[i]) {
			_ = append(m, mark, mark)
		}
	}
	if !ok || len(l) < 2 || !slices.Equal(asnWords(l), want) {
		t.Errorf("Frames(%s; %s) = %q", asnWord(p), asnWord(q), asnWords(l))
	}
}

// What an answer was is still so when an argument is changed afterwards.
func TestWhatIsLeftDoesNotFollowArguments(t *testing.T) {
	for _, r := range roomsOfTwo(t) {
		p, q := r[0].asn, r[1].asn
		if !impl.AsnOk(p) || !impl.AsnOk(q) {
			continue
		}
		want, _ := matchBy(p, q)
		seg, _ := matchBy(p, impl.Asn{Segs: pairs{{A: 1, B: 1}}})
		frames, _ := framesBy(p, q)
		wants := asnWords(append(frames, want, seg, pureOfBy(p)))
		left, _ := impl.Match(p, q)
		taken, _ := impl.TakeSeg(p, impl.Pair{A: 1, B: 1})
		l, _ := impl.Frames(p, q)
		pure := impl.PureOf(p)
		for _, m := range slices.Concat(r[0].memory, r[1].memory) {
			for i := range m {
				m[i] = impl.Pair{A: 9, B: 9}
			}
		}
		if got := asnWords(append(l, left, taken, pure)); !slices.Equal(got, wants) {
			t.Fatalf("an answer changed with its argument: %q, not %q", got, wants)
		}
	}
}

func TestRefutedLeavesItsArguments(t *testing.T) {
	drawnAsked(t, 300, func(_ *draw, s impl.State, p, q impl.Asn, _ bool) {
		var g guard
		l := g.joint(s.Terms, s.Heap)
		x, y := jointRoom(p), jointRoom(q)
		is := impl.Refuted(impl.State{Terms: l[0], Heap: l[1]}, x.asn, y.asn)
		if is != (holdsBy(s, p) && !holdsBy(s, q)) || g.touched() || x.touched() || y.touched() {
			t.Fatalf("Refuted(%s; %s; %s)", describeState(s), asnWord(p), asnWord(q))
		}
	})
}

// What is behind a list's length would be one that follows, one too many, or another piece.
func TestFollowsStopsAtTheLength(t *testing.T) {
	p, no := mustRead(t, "a>nil"), mustRead(t, "b>nil")
	l := append(slices.Repeat([]impl.Asn{no}, 100), p, p)
	if i := impl.Weaker(p, l[:99]); i != -1 {
		t.Errorf("Weaker reads behind the length: %d", i)
	}
	if i := impl.Weaker(p, l[100:101]); i != 0 {
		t.Errorf("Weaker reads behind the length: %d", i)
	}
	if i := impl.Weaker(no, l[:100]); i != 0 {
		t.Errorf("Weaker reads behind the length: %d", i)
	}
	for i, a := range l {
		if want := no; i < 100 && !sameAsn(a, want) || i >= 100 && !sameAsn(a, p) {
			t.Errorf("Weaker wrote at %d", i)
		}
	}
	m := pairs{{A: 1, B: 0}, {A: 2, B: 0}, {A: 99, B: -1}}
	open := impl.Asn{Cells: m[:1], Nes: m[2:2], Eqs: m[2:2]}
	if left, ok := impl.Match(open, impl.Asn{Cells: m[:1]}); !ok || !isZero(left) {
		t.Errorf("Match reads behind the length: %s, %v", describe(left), ok)
	}
	if _, ok := impl.TakeCell(open, m[1]); ok {
		t.Error("TakeCell reads behind the length")
	}
	if is, ok := impl.Entails(open, impl.Asn{Segs: m[:1]}); !is || !ok {
		t.Error("Entails reads behind the length")
	}
	if a := impl.PureOf(impl.Asn{Eqs: m[:1], Nes: m[1:2]}); asnWord(a) != "a=nil b!nil" {
		t.Errorf("PureOf reads behind the length: %s", describe(a))
	}
}

func TestNoCallOfFollowsPanics(t *testing.T) {
	asns := append(wrongAsns()[:60], impl.Asn{}, fullAsn(0), fullAsn(3), fullAsn(6), chain(6), allNames(), mustRead(t, "a!nil nil>nil nil..nil a..nil"), mustRead(t, "a>b b>a"), mustRead(t, "a!c b!c a>b b>a"))
	states := append(wrongStates()[:20], mustState(t, "a=1 b=2 1>2 2>1"))
	for _, p := range asns {
		impl.PureOf(p)
		for _, q := range asns {
			impl.Match(p, q)
			impl.Entails(p, q)
			impl.Frames(p, q)
			impl.Same(p, q)
			impl.PureFollows(p, q)
			for _, s := range states {
				impl.Refuted(s, p, q)
			}
		}
		impl.Weaker(p, asns)
		for _, n := range []int{0, 1, 50, 100} {
			impl.Weaker(p, make([]impl.Asn, n))
		}
		impl.Weaker(p, nil)
		for _, x := range wrongTerms {
			for _, y := range append([]int{0, 1, 15}, wrongTerms...) {
				for _, e := range (pairs{{A: x, B: y}, {A: y, B: x}}) {
					impl.TakeCell(p, e)
					impl.TakeSeg(p, e)
				}
			}
		}
	}
}

// No function keeps anything: an answer is the same again, whatever was asked in between, and be it one that failed.
func TestNothingIsKeptOfFollows(t *testing.T) {
	var ps, qs []impl.Asn
	drawnAsked(t, 300, func(_ *draw, _ impl.State, p, q impl.Asn, _ bool) { ps, qs = append(ps, p), append(qs, q) })
	for i, p := range ps {
		q := qs[i]
		is, _ := impl.Entails(p, q)
		l, _ := impl.Frames(p, q)
		left, _ := impl.Match(p, q)
		other, asked := ps[(i+37)%len(ps)], qs[(i+11)%len(ps)]
		impl.Entails(other, asked)
		impl.Frames(other, asked)
		impl.Match(other, asked)
		impl.Weaker(other, qs[:50])
		again, _ := impl.Entails(p, q)
		m, _ := impl.Frames(p, q)
		rest, _ := impl.Match(p, q)
		if is != again || !sameAsns(l, m) || !sameAsn(left, rest) {
			t.Fatalf("an answer about %s; %s is another one", asnWord(p), asnWord(q))
		}
	}
}
