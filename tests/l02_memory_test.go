package tests

import (
	"math"
	"slices"
	"testing"

	"loop.example/g00621/impl"
)

// guard knows memory as it was, and tells whether it is so still.
type guard struct {
	memory [][]int
	before [][]int
}

func (g *guard) keep(memory []int) {
	g.memory = append(g.memory, memory)
	g.before = append(g.before, slices.Clone(memory))
}

func (g *guard) touched() bool {
	for i, m := range g.memory {
		if !slices.Equal(m, g.before[i]) {
			return true
		}
	}
	return false
}

// spare has room behind the list in which a right list goes on.
func (g *guard) spare(l []int) []int {
	m := append(slices.Clone(l), 1, 2, 3, -1, 0, 1, 2, 3, -1, 0)
	g.keep(m)
	return m[:len(l)]
}

// joint has the lists in one memory, each with the next one as its spare room.
func (g *guard) joint(lists ...[]int) [][]int {
	m := append(slices.Concat(lists...), 1, 2, 3, -1, 0, 1, 2, 3)
	g.keep(m)
	out := make([][]int, len(lists))
	from := 0
	for i, l := range lists {
		out[i] = m[from : from+len(l)]
		from += len(l)
	}
	return out
}

// checkNewInts writes over all of an answer: neither what is guarded nor its other lists may change.
func checkNewInts(t *testing.T, name string, g *guard, answer ...[]int) {
	t.Helper()
	if g.touched() {
		t.Fatalf("%s wrote into an argument", name)
	}
	for i, l := range answer {
		var others guard
		for j, m := range answer {
			if j != i {
				others.keep(m)
			}
		}
		all := l[:cap(l)]
		for k := range all {
			all[k] = 1000 + 100*i + k
		}
		if others.touched() {
			t.Fatalf("%s: two lists of one answer share memory", name)
		}
	}
	if g.touched() {
		t.Fatalf("%s: the answer shares memory with an argument", name)
	}
}

func checkNewState(t *testing.T, name string, g *guard, s impl.State) {
	t.Helper()
	checkNewInts(t, name, g, s.Terms, s.Heap)
}

func TestStatesAreNewMemory(t *testing.T) {
	all := append(drawnStates(60), mustState(t, ""), mustState(t, "a=1 1>2 2>3 3>4 4>5 5>6 6>1"))
	for i, s := range append(all, wrongStates()[:20]...) {
		other := heapWith()
		for x := range other {
			if i%2 == 0 && x > 0 && x < len(s.Heap) && s.Heap[x] == gone {
				other[x] = 1
			}
		}
		var apart, joined guard
		l := joined.joint(s.Terms, s.Heap, other, []int{1, 3, 5})
		m := [][]int{apart.spare(s.Terms), apart.spare(s.Heap), apart.spare(other), apart.spare([]int{2, 3, 6})}
		checkStateCalls(t, &joined, l)
		checkStateCalls(t, &apart, m)
		if impl.StateOk(s) {
			// The state's own lists are the other arguments, too.
			checkStateCalls(t, &apart, [][]int{m[0], m[1], m[1], m[0]})
			checkStateCalls(t, &apart, [][]int{m[0], m[1], m[2], m[1]})
		}
	}
}

func checkStateCalls(t *testing.T, g *guard, l [][]int) {
	t.Helper()
	s := impl.State{Terms: l[0], Heap: l[1]}
	u, _ := impl.Union(s, l[2])
	checkNewState(t, "Union", g, u)
	p, _ := impl.Part(s, l[3])
	checkNewState(t, "Part", g, p)
	p, _ = impl.Part(s, []int{1, 2, 3, 4, 5, 6})
	checkNewState(t, "Part", g, p)
	for x := -1; x <= impl.Terms; x++ {
		p, _ = impl.Sole(s, x)
		checkNewState(t, "Sole", g, p)
	}
	for x := -1; x <= impl.Addrs+1; x++ {
		for y := -1; y <= impl.Addrs+1; y++ {
			way, _ := impl.SegOf(s, x, y)
			checkNewInts(t, "SegOf", g, way)
			p, _ = impl.Grow(s, x, y)
			checkNewState(t, "Grow", g, p)
			impl.Reaches(s, x, y)
		}
		impl.Next(s, x)
	}
	checkNewInts(t, "Domain", g, impl.Domain(s))
	checkNewInts(t, "Loose", g, impl.Loose(s))
	impl.StateOk(s)
	impl.StateText(s)
	impl.Apart(l[1], l[2])
	impl.Apart(l[1], l[1])
	checkNewInts(t, "the others", g)
}

func TestHoldsLeavesItsArguments(t *testing.T) {
	drawnHolds(t, 300, func(d *draw, s impl.State, a impl.Asn) {
		var g guard
		l := g.joint(s.Terms, s.Heap)
		r := jointRoom(a)
		if impl.Holds(impl.State{Terms: l[0], Heap: l[1]}, r.asn) != holdsBy(s, a) || g.touched() || r.touched() {
			t.Fatalf("Holds(%s, %s)", describeState(s), asnWord(a))
		}
	})
}

// What an answer was is still so when an argument is changed afterwards.
func TestStatesDoNotFollowArguments(t *testing.T) {
	s := mustState(t, "a=1 b=4 1>2 2>0")
	h := heapWith(gone, gone, 4, 0)
	u, _ := impl.Union(s, h)
	p, _ := impl.Part(s, []int{1})
	g, _ := impl.Grow(s, 1, 3)
	o, _ := impl.Sole(s, 1)
	for _, l := range [][]int{s.Terms, s.Heap, h} {
		for i := range l {
			l[i] = 5
		}
	}
	for text, x := range map[string]impl.State{"a=1 b=4 1>2 2>0 3>4 4>0": u, "a=1 b=4 1>2": p, "a=1 b=4 1>3 2>0 3>2": g, "a=1 b=4 1>2 2>0": o} {
		if !sameState(x, mustState(t, text)) {
			t.Errorf("%q is %s now", text, describeState(x))
		}
	}
}

// What is behind a list's length would make it a right one, or another one.
func TestStatesStopAtTheLength(t *testing.T) {
	terms, heap := append(termsWith(1), 1, 2), append(heapWith(2), 3, 4)
	s := impl.State{Terms: terms[:impl.Terms], Heap: heap[:impl.Addrs+1]}
	if !impl.StateOk(s) || string(impl.StateText(s)) != "a=1 b=0 c=0 d=0 e=0 1>2" {
		t.Error("something reads behind the length")
	}
	if impl.StateOk(impl.State{Terms: terms[:impl.Terms-1], Heap: s.Heap}) || impl.StateOk(impl.State{Terms: s.Terms, Heap: heap[:impl.Addrs]}) {
		t.Error("something reads behind the length")
	}
	addrs := []int{2, 1}
	if p, ok := impl.Part(s, addrs[:1]); !ok || len(impl.Domain(p)) != 0 {
		t.Error("Part reads behind the length")
	}
}

func TestNoCallOfStatesPanics(t *testing.T) {
	numbers := append([]int{0, 1, 2, 6, 15, math.MaxInt - 1, math.MinInt + 1}, append(wrongPlacesOfHeap, wrongTerms...)...)
	states := append(wrongStates(), mustState(t, ""), mustState(t, "a=1 1>1"), mustState(t, "a=6 1>2 2>3 3>4 4>5 5>6 6>1"))
	asns := append(wrongAsns()[:30], impl.Asn{}, fullAsn(3), mustRead(t, "a>b"), mustRead(t, "a..b"))
	heaps := append(wrongHeaps(), heapWith(), nil)
	for _, s := range states {
		impl.StateOk(s)
		impl.StateText(s)
		impl.Domain(s)
		impl.Loose(s)
		for _, a := range asns {
			impl.Holds(s, a)
		}
		for _, h := range heaps {
			impl.Union(s, h)
			impl.Part(s, h)
			impl.Apart(s.Heap, h)
			impl.Apart(h, s.Terms)
		}
		for _, x := range numbers {
			impl.Next(s, x)
			impl.Sole(s, x)
			impl.Part(s, []int{x})
			for _, y := range numbers {
				impl.SegOf(s, x, y)
				impl.Reaches(s, x, y)
				impl.Grow(s, x, y)
			}
		}
	}
}

// No function keeps anything: an answer is the same again, whatever was asked in between.
func TestNothingIsKeptOfStates(t *testing.T) {
	all := drawnStates(200)
	for i, s := range all {
		text := string(impl.StateText(s))
		domain, loose := impl.Domain(s), impl.Loose(s)
		other := all[(i+37)%len(all)]
		impl.Union(s, other.Heap)
		impl.Part(other, []int{1, 2})
		impl.Grow(s, 1, 2)
		impl.Sole(other, 3)
		if string(impl.StateText(s)) != text || !slices.Equal(impl.Domain(s), domain) || !slices.Equal(impl.Loose(s), loose) {
			t.Fatalf("an answer about %s is another one", describeState(s))
		}
	}
}
