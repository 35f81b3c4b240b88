package tests

import (
	"slices"
	"testing"

	"loop.example/g00621/impl"
)

// pureBy knows of an assertion which terms are the same, by going from each one to all others.
type pureBy struct {
	asn  impl.Asn
	same [impl.Terms][impl.Terms]bool
}

func knownBy(a impl.Asn) *pureBy {
	k := &pureBy{asn: a}
	for t := range impl.Terms {
		k.same[t][t] = true
	}
	for _, p := range a.Eqs {
		k.same[p.A][p.B], k.same[p.B][p.A] = true, true
	}
	for over := range impl.Terms {
		for x := range impl.Terms {
			for y := range impl.Terms {
				k.same[x][y] = k.same[x][y] || k.same[x][over] && k.same[over][y]
			}
		}
	}
	return k
}

func (k *pureBy) class(t int) int { return slices.Index(k.same[t][:], true) }

func (k *pureBy) classes() []int {
	l := make([]int, impl.Terms)
	for t := range l {
		l[t] = k.class(t)
	}
	return l
}

func (k *pureBy) nes(x, y int) bool {
	return slices.ContainsFunc(k.asn.Nes, func(p impl.Pair) bool {
		return k.same[p.A][x] && k.same[p.B][y] || k.same[p.A][y] && k.same[p.B][x]
	})
}

func (k *pureBy) opened() bool {
	return !slices.ContainsFunc(k.asn.Segs, func(p impl.Pair) bool { return !k.nes(p.A, p.B) })
}

func (k *pureBy) pieces() pairs { return slices.Concat(k.asn.Cells, k.asn.Segs) }

func (k *pureBy) begin(t int) int {
	n := 0
	for _, p := range k.pieces() {
		if k.same[p.A][t] {
			n++
		}
	}
	return n
}

func (k *pureBy) unlike(x, y int) bool {
	if !k.opened() {
		return false
	}
	bound := func(t, other int) bool { return k.begin(t) > 0 && (k.same[other][impl.Nil] || k.begin(other) > 0) }
	return k.nes(x, y) || !k.same[x][y] && (bound(x, y) || bound(y, x))
}

func (k *pureBy) contra() bool {
	if !k.opened() {
		return false
	}
	for _, p := range k.asn.Nes {
		if k.same[p.A][p.B] {
			return true
		}
	}
	for _, p := range k.pieces() {
		if k.same[p.A][impl.Nil] || k.begin(p.A) > 1 {
			return true
		}
	}
	return false
}

func (k *pureBy) normal() impl.Asn {
	var l [kinds]pairs
	for t := range impl.Terms {
		if k.class(t) != t {
			l[0] = append(l[0], impl.Pair{A: t, B: k.class(t)})
		}
	}
	for kind, m := range listsOf(k.asn) {
		for _, p := range m {
			if kind > 0 {
				l[kind] = append(l[kind], impl.Pair{A: k.class(p.A), B: k.class(p.B)})
			}
		}
	}
	return asnOf(l)
}

func (k *pureBy) heads() []int {
	var l []int
	for _, p := range k.pieces() {
		l = append(l, k.class(p.A))
	}
	return l
}

func (k *pureBy) members(t int) []int {
	var l []int
	for x := range impl.Terms {
		if k.same[t][x] {
			l = append(l, x)
		}
	}
	return l
}

// checkPure holds every answer about a to what is told apart from the program.
func checkPure(t *testing.T, a impl.Asn) {
	t.Helper()
	k := knownBy(a)
	if l := impl.Classes(a); !slices.Equal(l, k.classes()) {
		t.Fatalf("Classes(%s) = %v", asnWord(a), l)
	}
	if l := impl.Heads(a); !slices.Equal(l, k.heads()) {
		t.Fatalf("Heads(%s) = %v", asnWord(a), l)
	}
	if impl.Opened(a) != k.opened() || impl.Contra(a) != k.contra() {
		t.Fatalf("Opened(%s) = %v, Contra = %v", asnWord(a), impl.Opened(a), impl.Contra(a))
	}
	if n, ok := impl.Normal(a); !ok || !sameAsn(n, k.normal()) {
		t.Fatalf("Normal(%s) = %s, %v", asnWord(a), describe(n), ok)
	}
	own := 0
	for x := range impl.Terms {
		if k.class(x) == x {
			own++
		}
		if l := impl.Members(a, x); !slices.Equal(l, k.members(x)) {
			t.Fatalf("Members(%s, %d) = %v", asnWord(a), x, l)
		}
		if i := impl.HeadAt(a, x); i != slices.Index(k.heads(), k.class(x)) {
			t.Fatalf("HeadAt(%s, %d) = %d", asnWord(a), x, i)
		}
		for y := range impl.Terms {
			if impl.Alike(a, x, y) != k.same[x][y] || impl.Unlike(a, x, y) != k.unlike(x, y) {
				t.Fatalf("%s: Alike(%d, %d) = %v, Unlike = %v", asnWord(a), x, y, impl.Alike(a, x, y), impl.Unlike(a, x, y))
			}
		}
	}
	if n := impl.ClassCount(a); n != own {
		t.Fatalf("ClassCount(%s) = %d", asnWord(a), n)
	}
}

// openedUp has for each segment one more of Nes, either way about, as far as there is room.
func (d *draw) openedUp(a impl.Asn) impl.Asn {
	a.Nes = slices.Clone(a.Nes)
	for _, p := range a.Segs {
		if len(a.Nes) == impl.MaxPure {
			break
		}
		if d.below(2) == 0 {
			p = impl.Pair{A: p.B, B: p.A}
		}
		a.Nes = append(a.Nes, p)
	}
	return a
}

// tied has more of Eqs, of terms that are the same in s.
func (d *draw) tied(s impl.State, a impl.Asn) impl.Asn {
	a.Eqs = slices.Clone(a.Eqs)
	for range d.below(impl.MaxPure + 1 - len(a.Eqs)) {
		x := d.below(impl.Terms)
		a.Eqs = append(a.Eqs, impl.Pair{A: x, B: d.termAt(s, s.Terms[x])})
	}
	return a
}

// drawnKnown hands out drawn states, each with an assertion that holds or nearly does, and often is opened.
func drawnKnown(t *testing.T, n int, do func(d *draw, s impl.State, a impl.Asn, held bool)) {
	t.Helper()
	d := draw(7)
	held, opened := 0, 0
	for i := range n {
		s := d.state()
		a := d.tied(s, d.asnAbout(s))
		if i%4 > 0 {
			a = d.openedUp(a)
		}
		if i%3 == 2 {
			a = d.bent(a)
		}
		if !impl.AsnOk(a) {
			continue
		}
		holds := impl.Holds(s, a)
		if holds {
			held++
			if knownBy(a).opened() {
				opened++
			}
		}
		do(&d, s, a, holds)
	}
	if held < n/4 || held > n*7/8 || opened < n/5 || opened == held {
		t.Fatalf("%d of %d hold, %d of them are opened", held, n, opened)
	}
}

// smallAsns has every choice of at most three words (with nil, a and b), and each of these with what opens it.
func smallAsns(t *testing.T) []impl.Asn {
	t.Helper()
	words := []string{"a=b", "b=nil", "a!b", "nil!a", "b!nil", "a!a", "a>nil", "a>b", "a>a", "b>a", "b>nil", "nil>a", "a..nil", "a..b", "b..a", "b..nil", "a..a", "nil..a"}
	var out []impl.Asn
	for i := range words {
		for j := i; j < len(words); j++ {
			for k := j; k < len(words); k++ {
				a, _ := impl.Star(mustRead(t, words[i]), mustRead(t, words[j]))
				a, _ = impl.Star(a, mustRead(t, words[k]))
				out = append(out, a)
				if d := draw(i + j + k); len(a.Segs) > 0 {
					out = append(out, d.openedUp(a))
				}
			}
		}
	}
	return append(out, impl.Asn{})
}
