package tests

import (
	"slices"
	"testing"

	"loop.example/g00621/impl"
)

// Each answer is as it is told apart from the program.
func TestFollowsByAnotherWay(t *testing.T) {
	all := drawnAsns(600)
	for i, p := range all {
		checkFollows(t, p, all[(i+37)%len(all)])
		checkFollows(t, p, p)
	}
	drawnAsked(t, 3000, func(_ *draw, _ impl.State, p, q impl.Asn, _ bool) { checkFollows(t, p, q) })
	drawnMatches(t, 3000, func(d *draw, _ impl.State, open, q impl.Asn) {
		checkMatched(t, open, q)
		checkMatched(t, open, d.bent(q))
		checkMatched(t, d.bent(open), q)
	})
}

// What follows holds wherever that does.
func TestWhatFollowsHolds(t *testing.T) {
	var yes, no, contrary int
	drawnAsked(t, 12000, func(_ *draw, s impl.State, p, q impl.Asn, held bool) {
		is, ok := impl.Entails(p, q)
		switch {
		case !ok:
			t.Fatalf("Entails(%s; %s)", asnWord(p), asnWord(q))
		case !is:
			no++
		case !held:
			contrary++
		case !impl.Holds(s, q) || impl.Refuted(s, p, q):
			t.Fatalf("%s follows from %s, but not in %s", asnWord(q), asnWord(p), describeState(s))
		default:
			yes++
		}
		if impl.Refuted(s, p, q) != (holdsBy(s, p) && !holdsBy(s, q)) {
			t.Fatalf("Refuted(%s; %s; %s)", describeState(s), asnWord(p), asnWord(q))
		}
	})
	if yes < 1000 || no < 1000 {
		t.Fatalf("%d follow, %d do not, %d follow but are not asked", yes, no, contrary)
	}
}

// statesIn tells by bits in which states an assertion holds.
func statesIn(states []impl.State, a impl.Asn) []uint64 {
	out := make([]uint64, len(states)/64+1)
	for i, s := range states {
		if impl.Holds(s, a) {
			out[i/64] |= 1 << (i % 64)
		}
	}
	return out
}

func isWithin(x, y []uint64) bool {
	for i := range x {
		if x[i]&^y[i] != 0 {
			return false
		}
	}
	return true
}

// threeTermAsns have ways between a, b, c and nil in one, two or three pieces, some with what tells that ends are not the same.
func threeTermAsns(t *testing.T) []impl.Asn {
	t.Helper()
	pieces := []string{"a>b", "b>c", "c>nil", "a>nil", "b>a", "a..b", "b..c", "a..c", "c..nil", "a..nil", "b..nil", "c..a"}
	pures := []string{"a!c", "a!b", "b!c", "c!nil", "b=c"}
	spaces := []impl.Asn{{}}
	for i, x := range pieces {
		one := mustRead(t, x)
		spaces = append(spaces, one)
		for j, y := range pieces[i+1:] {
			two, _ := impl.Star(one, mustRead(t, y))
			spaces = append(spaces, two)
			for _, z := range pieces[i+j+2:] {
				three, _ := impl.Star(two, mustRead(t, z))
				if (i+j+len(z))%4 == 0 {
					spaces = append(spaces, three)
				}
			}
		}
	}
	var out []impl.Asn
	for i, a := range spaces {
		out = append(out, a)
		some := []string{pures[i%len(pures)]}
		// A way in two segments may have its end on it whatever is told of its ends: all of these are asked.
		if len(a.Cells) == 0 && len(a.Segs) == 2 {
			some = pures
		}
		for _, w := range some {
			b, _ := impl.Star(a, mustRead(t, w))
			out = append(out, b)
		}
	}
	return out
}

// In small states all can be asked: what follows holds in all in which that does, and two that are the same in the same.
func TestFollowsInSmallStates(t *testing.T) {
	states := statesOfThree()
	all := threeTermAsns(t)
	in := make([][]uint64, len(all))
	for i, a := range all {
		in[i] = statesIn(states, a)
	}
	var yes, refuted, same int
	for i, p := range all {
		for j, q := range all {
			is, ok := impl.Entails(p, q)
			within := isWithin(in[i], in[j])
			if !ok || is && !within {
				t.Fatalf("Entails(%s; %s) = %v, %v", asnWord(p), asnWord(q), is, ok)
			}
			if is {
				yes++
			}
			if !within {
				refuted++
			}
			if j > i {
				continue
			}
			both, ok := impl.Same(p, q)
			back, can := impl.Same(q, p)
			if !ok || !can || both != back || both && !slices.Equal(in[i], in[j]) {
				t.Fatalf("Same(%s; %s) = %v, %v; %v, %v", asnWord(p), asnWord(q), both, ok, back, can)
			}
			if both && i != j {
				same++
			}
		}
	}
	if len(all) < 150 || yes < len(all)*2 || refuted < 1000 || same < 20 {
		t.Fatalf("of %d asked %d follow, %d can't, %d are the same", len(all), yes, refuted, same)
	}
}

// What there is room for follows from itself; and it is the same as itself in another order.
func TestEachFollowsFromItself(t *testing.T) {
	check := func(d *draw, a impl.Asn) {
		if is, ok := impl.Entails(a, a); !is || !ok {
			t.Fatalf("Entails(%s; itself) = %v, %v", asnWord(a), is, ok)
		}
		b := impl.Asn{Eqs: d.drawOrder(a.Eqs), Nes: d.drawOrder(a.Nes), Cells: d.shuffled(a.Cells), Segs: d.shuffled(a.Segs)}
		for _, c := range []impl.Asn{a, b} {
			if is, ok := impl.Same(a, c); !is || !ok {
				t.Fatalf("Same(%s; %s) = %v, %v", asnWord(a), asnWord(c), is, ok)
			}
		}
		l, ok := impl.Frames(a, b)
		if n, _ := impl.CountCases(a); !ok || len(l) != n || slices.ContainsFunc(l, hasPieces) {
			t.Fatalf("Frames(%s; %s) = %q, %v", asnWord(a), asnWord(b), asnWords(l), ok)
		}
		if i := impl.Weaker(a, []impl.Asn{b}); i != 0 {
			t.Fatalf("Weaker(%s; %s) = %d", asnWord(a), asnWord(b), i)
		}
	}
	drawnRoom(t, 2500, func(d *draw, _ impl.State, a impl.Asn, _ bool) { check(d, a) })
	d := draw(5)
	for i, a := range smallAsns(t) {
		if i%3 == 0 {
			check(&d, a)
		}
	}
	for n := range impl.MaxSpace + 1 {
		check(&d, chain(n))
	}
}

// What is left in a case, and what was asked for, beside each other hold where that case does.
func TestWhatIsLeftHoldsBesideIt(t *testing.T) {
	var left, nothing, failed int
	drawnAsked(t, 20000, func(_ *draw, s impl.State, p, q impl.Asn, held bool) {
		l, ok := impl.Frames(p, q)
		if !ok {
			failed++
			return
		}
		i := impl.CaseOf(s, p)
		if n, _ := impl.CountCases(p); len(l) != n {
			t.Fatalf("Frames(%s; %s) = %q", asnWord(p), asnWord(q), asnWords(l))
		}
		if !held {
			return
		}
		if !besideHolds(s, l[i], q) {
			t.Fatalf("Frames(%s; %s) = %q in %s", asnWord(p), asnWord(q), asnWords(l), describeState(s))
		}
		if both, ok := impl.Star(l[i], q); ok && !impl.Holds(s, both) {
			t.Fatalf("%s in %s", asnWord(both), describeState(s))
		}
		if hasPieces(l[i]) {
			left++
		} else {
			nothing++
		}
	})
	if min(left, nothing, failed) < 500 {
		t.Fatalf("in %d something is left, in %d nothing, %d fail", left, nothing, failed)
	}
}

// isAsItStood tells whether x has some of y, in order.
func isAsItStood(x, y pairs) bool {
	i := 0
	for _, p := range y {
		if i < len(x) && x[i] == p {
			i++
		}
	}
	return i == len(x)
}

// All of one that is opened is matched, or is left: what is left taken off leaves what was matched.
func TestAllIsMatchedOrLeft(t *testing.T) {
	var parts, whole, failed int
	drawnMatches(t, 12000, func(_ *draw, s impl.State, open, q impl.Asn) {
		left, ok := impl.Match(open, q)
		if !ok {
			failed++
			return
		}
		if !slices.Equal(left.Eqs, open.Eqs) || !slices.Equal(left.Nes, open.Nes) || !isAsItStood(left.Cells, open.Cells) || !isAsItStood(left.Segs, open.Segs) {
			t.Fatalf("Match(%s; %s) = %s", asnWord(open), asnWord(q), asnWord(left))
		}
		took, ok := impl.Match(open, left)
		if !ok || len(took.Cells)+len(left.Cells) != len(open.Cells) || len(took.Segs)+len(left.Segs) != len(open.Segs) {
			t.Fatalf("Match(%s; %s) = %s, %v", asnWord(open), asnWord(left), asnWord(took), ok)
		}
		for i, p := range slices.Concat(open.Cells, open.Segs) {
			list, other := left.Cells, took.Cells
			if i >= len(open.Cells) {
				list, other = left.Segs, took.Segs
			}
			if slices.Contains(list, p) == slices.Contains(other, p) {
				t.Fatalf("Match(%s; %s) = %s, and %s", asnWord(open), asnWord(q), asnWord(left), asnWord(took))
			}
		}
		if !besideHolds(s, left, q) || !besideHolds(s, left, took) {
			t.Fatalf("Match(%s; %s) = %s in %s", asnWord(open), asnWord(q), asnWord(left), describeState(s))
		}
		if hasPieces(left) {
			parts++
		} else {
			whole++
		}
	})
	if min(parts, whole, failed) < 500 {
		t.Fatalf("of %d something is left, of %d nothing, %d fail", parts, whole, failed)
	}
}

// What is taken off, and what is left, beside each other hold; what follows of Eqs and Nes holds.
func TestWhatIsTakenHoldsBesideIt(t *testing.T) {
	var cells, segs, pures int
	drawnMatches(t, 12000, func(d *draw, s impl.State, open, q impl.Asn) {
		for _, p := range slices.Concat(q.Cells, q.Segs, d.pairs(3, impl.Terms)) {
			if left, ok := impl.TakeCell(open, p); ok {
				cells++
				if !besideHolds(s, left, impl.Asn{Cells: pairs{p}}) || len(left.Cells) != len(open.Cells)-1 {
					t.Fatalf("TakeCell(%s; %v) = %s in %s", asnWord(open), p, asnWord(left), describeState(s))
				}
			}
			if left, ok := impl.TakeSeg(open, p); ok {
				segs++
				if !besideHolds(s, left, impl.Asn{Segs: pairs{p}}) {
					t.Fatalf("TakeSeg(%s; %v) = %s in %s", asnWord(open), p, asnWord(left), describeState(s))
				}
			}
		}
		pure := impl.PureOf(q)
		if !sameAsn(pure, pureOfBy(q)) || holdsBy(s, q) && !pureHoldsIn(s, pure) {
			t.Fatalf("PureOf(%s) = %s", asnWord(q), asnWord(pure))
		}
		if impl.PureFollows(open, q) {
			pures++
			if !pureHoldsIn(s, q) {
				t.Fatalf("PureFollows(%s; %s), but not in %s", asnWord(open), asnWord(q), describeState(s))
			}
		}
	})
	if min(cells, segs, pures) < 1000 {
		t.Fatalf("%d cells, %d segments, %d by Eqs and Nes", cells, segs, pures)
	}
}

// pureHoldsIn asks of Eqs and Nes alone: nothing is there.
func pureHoldsIn(s impl.State, a impl.Asn) bool {
	return holdsBy(impl.State{Terms: s.Terms, Heap: heapWith()}, impl.Asn{Eqs: a.Eqs, Nes: a.Nes})
}

// The first that follows does, and none ahead of it.
func TestWeakerIsTheFirst(t *testing.T) {
	bad := wrongAsns()
	var found, later, none int
	drawnAsked(t, 3000, func(d *draw, s impl.State, p, _ impl.Asn, held bool) {
		var l []impl.Asn
		for range d.below(6) {
			switch d.below(4) {
			case 0:
				l = append(l, bad[d.below(len(bad))])
			case 1:
				l = append(l, d.asn())
			case 2:
				l = append(l, d.bent(d.asked(s, p)))
			default:
				l = append(l, d.asked(s, p))
			}
		}
		i := impl.Weaker(p, l)
		if i != weakerBy(p, l) {
			t.Fatalf("Weaker(%s) = %d of %d", asnWord(p), i, len(l))
		}
		ahead := l
		if i >= 0 {
			found++
			ahead = l[:i]
			if is, ok := impl.Entails(p, l[i]); !is || !ok || held && !impl.Holds(s, l[i]) {
				t.Fatalf("Weaker(%s) = %d, which is %s", asnWord(p), i, asnWord(l[i]))
			}
		} else {
			none++
		}
		if i > 0 {
			later++
		}
		for _, q := range ahead {
			if is, _ := impl.Entails(p, q); is {
				t.Fatalf("Weaker(%s) = %d, but %s is ahead", asnWord(p), i, asnWord(q))
			}
		}
	})
	if min(found, later, none) < 200 {
		t.Fatalf("%d are found, %d not as the first, %d not", found, later, none)
	}
}
