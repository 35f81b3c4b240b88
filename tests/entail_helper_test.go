package tests

import (
	"slices"
	"testing"

	"loop.example/g00621/impl"
)

// clear tells of a piece, by its place among all, whether a way to end may go over it.
func (k *pureBy) clear(i, end int) bool {
	p := k.pieces()[i]
	if i < len(k.asn.Cells) {
		return k.unlike(p.A, end)
	}
	if k.same[p.B][end] || k.same[impl.Nil][end] {
		return true
	}
	for j, other := range k.pieces() {
		if j != i && k.same[other.A][end] {
			return true
		}
	}
	return false
}

// walk takes pieces off, one behind the other, by their places among all.
func (k *pureBy) walk(taken map[int]bool, from, end int) bool {
	if k.same[from][end] {
		return true
	}
	for i, p := range k.pieces() {
		if !taken[i] && k.same[p.A][from] && k.clear(i, end) {
			taken[i] = true
			return k.walk(taken, p.B, end)
		}
	}
	return false
}

func (k *pureBy) takesCell(taken map[int]bool, want impl.Pair) bool {
	for i, p := range k.asn.Cells {
		if !taken[i] && k.same[p.A][want.A] && k.same[p.B][want.B] {
			taken[i] = true
			return true
		}
	}
	return false
}

func (k *pureBy) knowsPure(q impl.Asn) bool {
	for _, p := range q.Eqs {
		if !k.same[p.A][p.B] {
			return false
		}
	}
	for _, p := range q.Nes {
		if !k.unlike(p.A, p.B) {
			return false
		}
	}
	return true
}

func (k *pureBy) without(taken map[int]bool) impl.Asn {
	left := impl.Asn{Eqs: slices.Clone(k.asn.Eqs), Nes: slices.Clone(k.asn.Nes)}
	for i, p := range k.pieces() {
		switch {
		case taken[i]:
		case i < len(k.asn.Cells):
			left.Cells = append(left.Cells, p)
		default:
			left.Segs = append(left.Segs, p)
		}
	}
	return left
}

func matchBy(open, q impl.Asn) (impl.Asn, bool) {
	if !impl.AsnOk(open) || !impl.AsnOk(q) {
		return impl.Asn{}, false
	}
	k := knownBy(open)
	if !k.opened() || k.contra() || !k.knowsPure(q) {
		return impl.Asn{}, false
	}
	taken := map[int]bool{}
	for _, p := range q.Cells {
		if !k.takesCell(taken, p) {
			return impl.Asn{}, false
		}
	}
	for _, p := range q.Segs {
		if !k.walk(taken, p.A, p.B) {
			return impl.Asn{}, false
		}
	}
	return k.without(taken), true
}

func framesBy(p, q impl.Asn) ([]impl.Asn, bool) {
	if !roomBy(p) || !impl.AsnOk(q) {
		return nil, false
	}
	var out []impl.Asn
	for _, c := range casesBy(p) {
		left, ok := matchBy(c, q)
		if !ok {
			return nil, false
		}
		out = append(out, left)
	}
	return out, true
}

func hasPieces(a impl.Asn) bool { return len(a.Cells)+len(a.Segs) > 0 }

func entailsBy(p, q impl.Asn) (bool, bool) {
	if !roomBy(p) || !impl.AsnOk(q) {
		return false, false
	}
	l, ok := framesBy(p, q)
	return ok && !slices.ContainsFunc(l, hasPieces), true
}

func weakerBy(p impl.Asn, l []impl.Asn) int {
	for i, q := range l {
		if is, _ := entailsBy(p, q); is && len(l) <= 100 {
			return i
		}
	}
	return -1
}

func pureOfBy(a impl.Asn) impl.Asn { return impl.Asn{Eqs: a.Eqs, Nes: a.Nes} }

// checkMatched holds to what is told apart from the program what is answered about one that may be opened.
func checkMatched(t *testing.T, open, q impl.Asn) {
	t.Helper()
	want, can := matchBy(open, q)
	if left, ok := impl.Match(open, q); ok != can || !sameAsn(left, want) {
		t.Fatalf("Match(%s; %s) = %s, %v, not %s, %v", asnWord(open), asnWord(q), asnWord(left), ok, asnWord(want), can)
	}
	_, can = matchBy(open, pureOfBy(q))
	if can = can && impl.AsnOk(q); impl.PureFollows(open, q) != can {
		t.Fatalf("PureFollows(%s; %s) = %v", asnWord(open), asnWord(q), !can)
	}
	for _, p := range slices.Concat(q.Cells, q.Segs) {
		want, can = matchBy(open, impl.Asn{Cells: pairs{p}})
		if left, ok := impl.TakeCell(open, p); ok != can || !sameAsn(left, want) {
			t.Fatalf("TakeCell(%s; %v) = %s, %v, not %s, %v", asnWord(open), p, asnWord(left), ok, asnWord(want), can)
		}
		want, can = matchBy(open, impl.Asn{Segs: pairs{p}})
		if left, ok := impl.TakeSeg(open, p); ok != can || !sameAsn(left, want) {
			t.Fatalf("TakeSeg(%s; %v) = %s, %v, not %s, %v", asnWord(open), p, asnWord(left), ok, asnWord(want), can)
		}
	}
}

// checkFollows holds every answer about these two to what is told apart from the program.
func checkFollows(t *testing.T, p, q impl.Asn) {
	t.Helper()
	checkMatched(t, p, q)
	want, can := entailsBy(p, q)
	if is, ok := impl.Entails(p, q); is != want || ok != can {
		t.Fatalf("Entails(%s; %s) = %v, %v, not %v, %v", asnWord(p), asnWord(q), is, ok, want, can)
	}
	frames, can := framesBy(p, q)
	if l, ok := impl.Frames(p, q); ok != can || !sameAsns(l, frames) {
		t.Fatalf("Frames(%s; %s) = %q, %v, not %q, %v", asnWord(p), asnWord(q), asnWords(l), ok, asnWords(frames), can)
	}
	back, _ := entailsBy(q, p)
	room := roomBy(p) && roomBy(q)
	if is, ok := impl.Same(p, q); ok != room || is != (room && want && back) {
		t.Fatalf("Same(%s; %s) = %v, %v", asnWord(p), asnWord(q), is, ok)
	}
}

// besideHolds puts two beside each other, be they too many or not.
func besideHolds(s impl.State, a, b impl.Asn) bool {
	l, m := listsOf(a), listsOf(b)
	for k := range l {
		l[k] = slices.Concat(l[k], m[k])
	}
	return holdsBy(s, asnOf(l))
}

// alikeTo is a drawn term of t's class, or now and then one that is only the same in s.
func (d *draw) alikeTo(s impl.State, k *pureBy, t int) int {
	if d.below(12) == 0 {
		return d.termAt(s, s.Terms[t])
	}
	l := k.members(t)
	return l[d.below(len(l))]
}

// joined has two pieces, of which one begins where another one ends, as one segment; or a cell as a segment.
func (d *draw) joined(k *pureBy, a impl.Asn) impl.Asn {
	n := len(a.Cells) + len(a.Segs)
	i := d.below(n)
	all := slices.Concat(a.Cells, a.Segs)
	whole, goes := all[i], map[int]bool{i: true}
	for j, p := range all {
		if j != i && k.same[whole.B][p.A] {
			whole.B, goes[j] = p.B, true
			break
		}
	}
	out := knownBy(a).without(goes)
	out.Segs = slices.Insert(out.Segs, d.below(len(out.Segs)+1), whole)
	return out
}

// shuffled leaves each pair the way about that it has: pieces have a beginning.
func (d *draw) shuffled(l pairs) pairs {
	l = slices.Clone(l)
	for i := range l {
		j := i + d.below(len(l)-i)
		l[i], l[j] = l[j], l[i]
	}
	return l
}

// asked is a drawn one that often follows from p: pieces are joined, some go, and terms become others of their class.
func (d *draw) asked(s impl.State, p impl.Asn) impl.Asn {
	k := knownBy(p)
	q := p
	for range d.below(4) {
		if hasPieces(q) {
			q = d.joined(k, q)
		}
	}
	if n := len(q.Cells) + len(q.Segs); n > 0 && d.below(4) == 0 {
		q = knownBy(q).without(map[int]bool{d.below(n): true})
	}
	l := listsOf(q)
	for kind := range l {
		if kind < 2 {
			l[kind] = d.drawOrder(l[kind])
		} else {
			l[kind] = d.shuffled(l[kind])
		}
		for i, x := range l[kind] {
			l[kind][i] = impl.Pair{A: d.alikeTo(s, k, x.A), B: d.alikeTo(s, k, x.B)}
		}
		if kind < 2 {
			l[kind] = l[kind][:d.below(len(l[kind])+1)]
		}
	}
	for range d.below(3) {
		x, y := d.below(impl.Terms), d.below(impl.Terms)
		switch {
		case k.same[x][y] && len(l[0]) < impl.MaxPure:
			l[0] = append(l[0], impl.Pair{A: x, B: y})
		case k.unlike(x, y) && len(l[1]) < impl.MaxPure:
			l[1] = append(l[1], impl.Pair{A: x, B: y})
		}
	}
	return asnOf(l)
}

// drawnAsked hands out drawn states, each with p, which holds there or nearly does, and q, which often follows.
func drawnAsked(t *testing.T, n int, do func(d *draw, s impl.State, p, q impl.Asn, held bool)) {
	t.Helper()
	drawnRoom(t, n, func(d *draw, s impl.State, p impl.Asn, held bool) {
		q := d.asked(s, p)
		if d.below(5) == 0 {
			q = d.bent(q)
		}
		if impl.AsnOk(q) {
			do(d, s, p, q, held)
		}
	})
}

// drawnMatches hands out drawn states, each with a case that holds there, and q, which is often matched.
func drawnMatches(t *testing.T, n int, do func(d *draw, s impl.State, open, q impl.Asn)) {
	t.Helper()
	drawnRoom(t, n, func(d *draw, s impl.State, p impl.Asn, _ bool) {
		// Only one can hold: each segment has nothing just where its ends are the same.
		number := 0
		for _, x := range p.Segs {
			number *= 2
			if s.Terms[x.A] != s.Terms[x.B] {
				number++
			}
		}
		open := choiceBy(p, number)
		if !holdsBy(s, open) {
			return
		}
		if q := d.asked(s, open); impl.AsnOk(q) {
			do(d, s, open, q)
		}
	})
}
