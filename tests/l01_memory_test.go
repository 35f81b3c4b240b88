package tests

import (
	"math"
	"slices"
	"testing"

	"loop.example/g00621/impl"
)

var mark = impl.Pair{A: 77, B: 88}

// room is an assertion together with all the memory behind it.
type room struct {
	asn    impl.Asn
	memory []pairs
	before []pairs
}

func (r *room) note() {
	for _, l := range r.memory {
		r.before = append(r.before, slices.Clone(l))
	}
}

func (r *room) touched() bool {
	for i, l := range r.memory {
		if !slices.Equal(l, r.before[i]) {
			return true
		}
	}
	return false
}

// apartRoom has each list in memory of its own, with spare room behind it.
func apartRoom(a impl.Asn) *room {
	r := &room{}
	var out [kinds]pairs
	for k, l := range listsOf(a) {
		m := append(slices.Clone(l), mark, mark, mark, mark, mark, mark, mark, mark)
		r.memory = append(r.memory, m)
		out[k] = m[:len(l)]
	}
	r.asn = asnOf(out)
	r.note()
	return r
}

// jointRoom has all lists in one memory, one behind the other, each with the others as its spare room.
func jointRoom(a impl.Asn) *room {
	m := slices.Concat(a.Eqs, a.Nes, a.Cells, a.Segs, repeated(mark, 40))
	r := &room{memory: []pairs{m}}
	var out [kinds]pairs
	from := 0
	for k, l := range listsOf(a) {
		out[k] = m[from : from+len(l)]
		from += len(l)
	}
	r.asn = asnOf(out)
	r.note()
	return r
}

// sharedRoom has the same list four times.
func sharedRoom(l pairs) *room {
	m := append(slices.Clone(l), repeated(mark, 20)...)
	x := m[:len(l)]
	r := &room{asn: impl.Asn{Eqs: x, Nes: x, Cells: x, Segs: x}, memory: []pairs{m}}
	r.note()
	return r
}

func rooms() []*room {
	var out []*room
	for _, a := range append(drawnAsns(60), impl.Asn{}, fullAsn(0), fullAsn(3), fullAsn(6)) {
		out = append(out, apartRoom(a), jointRoom(a))
	}
	for _, w := range wrongAsns()[:20] {
		out = append(out, apartRoom(w), jointRoom(w))
	}
	return append(out, sharedRoom(pairs{{A: 3, B: 1}, {A: 2, B: 2}, {A: 1, B: 6}}), sharedRoom(nil))
}

// scribble fills a list and what is behind it, and tells whether one of the other lists was changed by that.
func scribble(lists []pairs, i int) bool {
	var before []pairs
	for _, l := range lists {
		before = append(before, slices.Clone(l))
	}
	all := lists[i][:cap(lists[i])]
	for j := range all {
		all[j] = impl.Pair{A: 1000 + i, B: 1000 + j}
	}
	for k, l := range lists {
		if k != i && !slices.Equal(l, before[k]) {
			return true
		}
	}
	return false
}

// checkNew writes over all of an answer: neither the arguments nor its other lists may change.
func checkNew(t *testing.T, name string, answer []pairs, args ...*room) {
	t.Helper()
	for _, r := range args {
		if r.touched() {
			t.Fatalf("%s wrote into %s", name, describe(r.asn))
		}
	}
	for i := range answer {
		if scribble(answer, i) {
			t.Fatalf("%s: two lists of one answer share memory", name)
		}
	}
	for _, r := range args {
		if r.touched() {
			t.Fatalf("%s: the answer shares memory with %s", name, describe(r.asn))
		}
	}
}

func partsOf(a impl.Asn) []pairs {
	l := listsOf(a)
	return l[:]
}

func TestAnswersAreNewMemory(t *testing.T) {
	for _, r := range rooms() {
		for _, c := range [][2]int{{1, 2}, {1, 0}, {6, 6}, {15, 1}, {0, 1}, {1, 16}} {
			b, _ := impl.Subst(r.asn, c[0], c[1])
			checkNew(t, "Subst", partsOf(b), r)
		}
		b, _ := impl.Sorted(r.asn)
		checkNew(t, "Sorted", partsOf(b), r)
		for k := -1; k <= kinds; k++ {
			checkNew(t, "PairsOf", []pairs{impl.PairsOf(r.asn, k)}, r)
			for i := -1; i <= impl.MaxPure; i++ {
				b, _ = impl.Without(r.asn, k, i)
				checkNew(t, "Without", partsOf(b), r)
			}
		}
		for _, s := range []*room{apartRoom(impl.Asn{}), apartRoom(impl.Asn{Eqs: pairs{{A: 1, B: 1}}}), jointRoom(fullAsn(2)), r} {
			b, _ = impl.Star(r.asn, s.asn)
			checkNew(t, "Star", partsOf(b), r, s)
			b, _ = impl.Star(s.asn, r.asn)
			checkNew(t, "Star", partsOf(b), r, s)
		}
		b, _ = impl.AsnRead(impl.AsnText(r.asn))
		checkNew(t, "AsnText and AsnRead", partsOf(b), r)
		impl.AsnOk(r.asn)
		impl.TermsOf(r.asn)
		impl.Fresh(r.asn)
		impl.Plain(r.asn)
		impl.Has(r.asn, 1)
		impl.SizeOf(r.asn)
		checkNew(t, "the others", nil, r)
	}
}

// What an answer was is still so when an argument is changed afterwards.
func TestAnswersDoNotFollowArguments(t *testing.T) {
	for _, r := range rooms() {
		if !impl.AsnOk(r.asn) {
			continue
		}
		want := asnWord(r.asn)
		b, _ := impl.Subst(r.asn, 1, 1)
		c, _ := impl.Star(r.asn, impl.Asn{})
		text := impl.AsnText(r.asn)
		for _, l := range r.memory {
			for i := range l {
				l[i] = impl.Pair{A: 9, B: 9}
			}
		}
		if asnWord(b) != want || asnWord(c) != want || string(text) != want {
			t.Fatalf("an answer changed with its argument: %q", want)
		}
	}
}

func TestReadersLeaveTheirText(t *testing.T) {
	for _, s := range []string{"emp", "a=b a!nil a>_1 _1..nil", "a=b a!c!", "", "nil", "_10", "_1 "} {
		m := append([]byte(s), "=b a>b ..c 0"...)
		before := string(m)
		b := m[:len(s)]
		a, ok := impl.AsnRead(b)
		impl.TermRead(b)
		if string(m) != before {
			t.Fatalf("a reader wrote into %q", s)
		}
		for i := range m {
			m[i] = '#'
		}
		if ok && asnWord(a) != s {
			t.Fatalf("AsnRead keeps its text: %q", s)
		}
	}
}

// What is behind a text's length would make it another one.
func TestReadersStopAtTheLength(t *testing.T) {
	m := []byte("a=b a!c _10")
	if a, ok := impl.AsnRead(m[:3]); !ok || asnWord(a) != "a=b" {
		t.Error("AsnRead reads behind the length")
	}
	if _, ok := impl.AsnRead(m[:4]); ok {
		t.Error("AsnRead reads behind the length")
	}
	if x, ok := impl.TermRead(m[8:10]); !ok || x != 6 {
		t.Error("TermRead reads behind the length")
	}
}

// What is not AsnOk behind a list's length is not there.
func TestListsStopAtTheLength(t *testing.T) {
	m := pairs{{A: 1, B: 2}, {A: 99, B: -1}, {A: 6, B: 6}}
	a := impl.Asn{Eqs: m[:1], Segs: m[:0]}
	if !impl.AsnOk(a) || !impl.Plain(a) || impl.SizeOf(a) != 1 || impl.Fresh(a) != 6 || string(impl.AsnText(a)) != "a=b" {
		t.Error("something reads behind the length")
	}
}

func TestNothingPanics(t *testing.T) {
	numbers := append([]int{0, 1, 2, 3, 5, 6, 12, 13, 15, math.MaxInt - 1, math.MinInt + 1}, wrongTerms...)
	asns := append(wrongAsns(), impl.Asn{}, fullAsn(3), impl.Asn{Segs: pairs{{A: 1, B: 2}}})
	for _, x := range numbers {
		impl.TermRead(impl.TermText(x))
		impl.TermOk(x)
	}
	for _, a := range asns {
		impl.AsnRead(impl.AsnText(a))
		for _, x := range numbers {
			impl.Has(a, x)
			impl.PairsOf(a, x)
			for _, y := range numbers {
				impl.Subst(a, x, y)
				impl.Without(a, x, y)
			}
		}
	}
	for c := range 256 {
		for n := range 5 {
			b := slices.Repeat([]byte{byte(c)}, n)
			impl.TermRead(b)
			impl.AsnRead(b)
		}
	}
}

// No function keeps anything: an answer is the same again, whatever was asked in between.
func TestNothingIsKept(t *testing.T) {
	all := drawnAsns(100)
	for i, a := range all {
		first := string(impl.AsnText(a))
		other := all[(i+37)%len(all)]
		impl.Star(a, other)
		impl.Subst(other, 3, 4)
		impl.Sorted(a)
		impl.AsnRead([]byte("a=b a=c x"))
		if string(impl.AsnText(a)) != first {
			t.Fatalf("AsnText(%s) is another one", describe(a))
		}
	}
}
