package tests

import (
	"slices"
	"testing"

	"loop.example/g00621/impl"
)

func roomBy(a impl.Asn) bool {
	return impl.AsnOk(a) && max(len(a.Eqs), len(a.Nes))+len(a.Segs) <= impl.MaxPure
}

// choiceBy is a case by number: written in twos its first digit is the first segment's, 0 for nothing.
func choiceBy(a impl.Asn, number int) impl.Asn {
	c := impl.Asn{Eqs: slices.Clone(a.Eqs), Nes: slices.Clone(a.Nes), Cells: slices.Clone(a.Cells)}
	for i, p := range a.Segs {
		if number>>(len(a.Segs)-1-i)&1 == 0 {
			c.Eqs = append(c.Eqs, p)
		} else {
			c.Nes, c.Segs = append(c.Nes, p), append(c.Segs, p)
		}
	}
	return c
}

func casesBy(a impl.Asn) []impl.Asn {
	if !roomBy(a) {
		return nil
	}
	var out []impl.Asn
	for number := range 1 << len(a.Segs) {
		if c := choiceBy(a, number); !knownBy(c).contra() {
			out = append(out, c)
		}
	}
	return out
}

// classesThere are those, but Nil's, of the terms that are in it.
func classesThere(a impl.Asn) []int {
	k := knownBy(a)
	var l []int
	for _, t := range termsThere(a) {
		if !k.same[t][impl.Nil] {
			l = append(l, k.class(t))
		}
	}
	slices.Sort(l)
	return slices.Compact(l)
}

func witnessBy(a impl.Asn) (impl.State, bool) {
	for _, c := range casesBy(a) {
		l := classesThere(c)
		if len(l) > impl.Addrs {
			continue
		}
		s := impl.State{Terms: termsWith(), Heap: heapWith()}
		for i, class := range l {
			for _, t := range knownBy(c).members(class) {
				s.Terms[t] = i + 1
			}
		}
		for _, p := range slices.Concat(c.Cells, c.Segs) {
			s.Heap[s.Terms[p.A]] = s.Terms[p.B]
		}
		return s, true
	}
	return impl.State{}, false
}

func isPlace(l pairs, i int) bool { return i >= 0 && i < len(l) }

func lessBy(l pairs, i int) pairs { return slices.Delete(slices.Clone(l), i, i+1) }

func unfoldBy(a impl.Asn, seg int) (impl.Asn, bool) {
	if !impl.AsnOk(a) || !isPlace(a.Segs, seg) || len(a.Cells)+len(a.Segs) == impl.MaxSpace {
		return impl.Asn{}, false
	}
	p := a.Segs[seg]
	there := termsThere(a)
	f := -1
	for t := impl.Terms - 1; t > impl.Vars; t-- {
		if !slices.Contains(there, t) {
			f = t
		}
	}
	if f < 0 || !knownBy(a).nes(p.A, p.B) {
		return impl.Asn{}, false
	}
	a.Cells = append(slices.Clone(a.Cells), impl.Pair{A: p.A, B: f})
	a.Segs = append(lessBy(a.Segs, seg), impl.Pair{A: f, B: p.B})
	return a, true
}

func foldBy(a impl.Asn, cell, seg int) (impl.Asn, bool) {
	if !impl.AsnOk(a) || !isPlace(a.Cells, cell) || !isPlace(a.Segs, seg) {
		return impl.Asn{}, false
	}
	k := knownBy(a)
	first, rest := a.Cells[cell], a.Segs[seg]
	sure := k.same[rest.B][impl.Nil] || k.nes(rest.B, first.A)
	for i, p := range a.Cells {
		sure = sure || i != cell && k.same[p.A][rest.B]
	}
	if !sure || !k.same[first.B][rest.A] {
		return impl.Asn{}, false
	}
	a.Cells = lessBy(a.Cells, cell)
	a.Segs = append(lessBy(a.Segs, seg), impl.Pair{A: first.A, B: rest.B})
	return a, true
}

func splitBy(a impl.Asn, seg int) (impl.Asn, impl.Asn, bool) {
	if !roomBy(a) || !isPlace(a.Segs, seg) {
		return impl.Asn{}, impl.Asn{}, false
	}
	x, y := a, a
	x.Eqs = append(slices.Clone(a.Eqs), a.Segs[seg])
	x.Segs = lessBy(a.Segs, seg)
	y.Nes = append(slices.Clone(a.Nes), a.Segs[seg])
	return x, y, true
}

func sameAsns(x, y []impl.Asn) bool { return slices.EqualFunc(x, y, sameAsn) }

func asnWords(l []impl.Asn) []string {
	var out []string
	for _, a := range l {
		out = append(out, asnWord(a))
	}
	return out
}

// checkCases holds every answer about a to what is told apart from the program.
func checkCases(t *testing.T, a impl.Asn) {
	t.Helper()
	want, room := casesBy(a), roomBy(a)
	if l, ok := impl.Cases(a); ok != room || !sameAsns(l, want) {
		t.Fatalf("Cases(%s) = %q, %v, not %q, %v", asnWord(a), asnWords(l), ok, asnWords(want), room)
	}
	if n, ok := impl.CountCases(a); ok != room || n != len(want) {
		t.Fatalf("CountCases(%s) = %d, %v", asnWord(a), n, ok)
	}
	if is, ok := impl.Possible(a); ok != room || is != (len(want) > 0) {
		t.Fatalf("Possible(%s) = %v, %v", asnWord(a), is, ok)
	}
	s, found := witnessBy(a)
	if got, ok := impl.Witness(a); ok != found || !sameState(got, s) {
		t.Fatalf("Witness(%s) = %s, %v", asnWord(a), describeState(got), ok)
	}
	for seg := -1; seg <= len(a.Segs); seg++ {
		u, can := unfoldBy(a, seg)
		if got, ok := impl.Unfold(a, seg); ok != can || !sameAsn(got, u) {
			t.Fatalf("Unfold(%s, %d) = %s, %v", asnWord(a), seg, asnWord(got), ok)
		}
		x, y, can := splitBy(a, seg)
		if v, w, ok := impl.Split(a, seg); ok != can || !sameAsn(v, x) || !sameAsn(w, y) {
			t.Fatalf("Split(%s, %d) = %s, %s, %v", asnWord(a), seg, asnWord(v), asnWord(w), ok)
		}
		for cell := -1; cell <= len(a.Cells); cell++ {
			f, can := foldBy(a, cell, seg)
			if got, ok := impl.Fold(a, cell, seg); ok != can || !sameAsn(got, f) {
				t.Fatalf("Fold(%s, %d, %d) = %s, %v", asnWord(a), cell, seg, asnWord(got), ok)
			}
		}
	}
}

// withEmpty has more segments, at drawn places, that have nothing in s.
func (d *draw) withEmpty(s impl.State, a impl.Asn) impl.Asn {
	a.Segs = slices.Clone(a.Segs)
	for range d.below(impl.MaxSpace + 1 - len(a.Cells) - len(a.Segs)) {
		x := d.below(impl.Terms)
		p := impl.Pair{A: x, B: d.termAt(s, s.Terms[x])}
		a.Segs = slices.Insert(a.Segs, d.below(len(a.Segs)+1), p)
	}
	return a
}

// openedIn has, for most segments that have something in s, one more of Nes, either way about.
func (d *draw) openedIn(s impl.State, a impl.Asn) impl.Asn {
	a.Nes = slices.Clone(a.Nes)
	for _, p := range a.Segs {
		if s.Terms[p.A] == s.Terms[p.B] || len(a.Nes)+len(a.Segs) == impl.MaxPure || d.below(4) == 0 {
			continue
		}
		a.Nes = append(a.Nes, d.drawOrder(pairs{p})...)
	}
	return a
}

// drawnRoom hands out drawn states, each with an assertion for which there is room, and which holds or nearly does.
func drawnRoom(t *testing.T, n int, do func(d *draw, s impl.State, a impl.Asn, held bool)) {
	t.Helper()
	d := draw(13)
	held, segs, something := 0, 0, 0
	for i := range n {
		s := d.state()
		a := d.withEmpty(s, d.asnAbout(s))
		if i%2 == 1 {
			a = d.openedIn(s, a)
		}
		if i%4 > 1 {
			a = d.bent(a)
		}
		if !roomBy(a) {
			continue
		}
		holds := holdsBy(s, a)
		if holds {
			held++
			segs += len(a.Segs)
			for _, p := range a.Segs {
				if s.Terms[p.A] != s.Terms[p.B] {
					something++
				}
			}
		}
		do(&d, s, a, holds)
	}
	if held < n/4 || held > n*7/8 || something < n/8 || segs-something < n/4 {
		t.Fatalf("%d of %d hold, with %d segments, of which %d have something", held, n, segs, something)
	}
}

// statesOfThree are all with addresses 1 .. 3, of which a, b and c are any.
func statesOfThree() []impl.State {
	var l []impl.State
	smallStates(func(s impl.State) {
		for c := range 4 {
			v := cloneState(s)
			v.Terms[3] = c
			l = append(l, v)
		}
	})
	return l
}
