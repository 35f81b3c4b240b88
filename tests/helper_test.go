package tests

import (
	"fmt"
	"math"
	"slices"
	"testing"

	"loop.example/g00621/impl"
)

type pairs = []impl.Pair

const kinds = 4

func listsOf(a impl.Asn) [kinds]pairs { return [kinds]pairs{a.Eqs, a.Nes, a.Cells, a.Segs} }

func asnOf(l [kinds]pairs) impl.Asn {
	return impl.Asn{Eqs: l[0], Nes: l[1], Cells: l[2], Segs: l[3]}
}

// sameAsn takes an empty list and nil as the same, as the conventions do.
func sameAsn(a, b impl.Asn) bool {
	x, y := listsOf(a), listsOf(b)
	for k := range kinds {
		if !slices.Equal(x[k], y[k]) {
			return false
		}
	}
	return true
}

func isZero(a impl.Asn) bool { return sameAsn(a, impl.Asn{}) }

func repeated(p impl.Pair, n int) pairs { return slices.Repeat(pairs{p}, n) }

// termWord is told apart from the program's own way, so that both can be held against each other.
func termWord(t int) string {
	all := []string{"nil", "a", "b", "c", "d", "e", "_1", "_2", "_3", "_4", "_5", "_6", "_7", "_8", "_9", "_10"}
	return all[t]
}

func asnWord(a impl.Asn) string {
	s := ""
	for k, l := range listsOf(a) {
		for _, p := range l {
			s += " " + termWord(p.A) + []string{"=", "!", ">", ".."}[k] + termWord(p.B)
		}
	}
	if s == "" {
		return "emp"
	}
	return s[1:]
}

// mustRead makes tests short; it is held to asnWord, not to the program's own text.
func mustRead(t *testing.T, s string) impl.Asn {
	t.Helper()
	a, ok := impl.AsnRead([]byte(s))
	if !ok || asnWord(a) != s {
		t.Fatalf("AsnRead(%q) = %v, %v", s, a, ok)
	}
	return a
}

// draw is a row of numbers that is the same in each run.
type draw uint64

func (d *draw) below(n int) int {
	*d = *d*6364136223846793005 + 1442695040888963407
	return int(uint64(*d)>>33) % n
}

func (d *draw) pairs(n int, terms int) pairs {
	l := make(pairs, n)
	for i := range l {
		l[i] = impl.Pair{A: d.below(terms), B: d.below(terms)}
	}
	return l
}

func (d *draw) asn() impl.Asn {
	terms := 1 + d.below(impl.Terms)
	pieces := d.below(impl.MaxSpace + 1)
	cells := d.below(pieces + 1)
	return impl.Asn{
		Eqs:   d.pairs(d.below(impl.MaxPure+1), terms),
		Nes:   d.pairs(d.below(impl.MaxPure+1), terms),
		Cells: d.pairs(cells, terms),
		Segs:  d.pairs(pieces-cells, terms),
	}
}

func drawnAsns(n int) []impl.Asn {
	d := draw(1)
	l := make([]impl.Asn, n)
	for i := range l {
		l[i] = d.asn()
	}
	return l
}

var wrongTerms = []int{-1, impl.Terms, -2, impl.Terms + 1, 255, 256, math.MinInt, math.MaxInt, 1 << 32, -(1 << 32)}

// wrongAsns are just not AsnOk: one wrong term in each place there is, and each limit passed by one.
func wrongAsns() []impl.Asn {
	p := impl.Pair{A: 1, B: 2}
	out := []impl.Asn{
		{Eqs: repeated(p, impl.MaxPure+1)},
		{Nes: repeated(p, impl.MaxPure+1)},
		{Cells: repeated(p, impl.MaxSpace+1)},
		{Segs: repeated(p, impl.MaxSpace+1)},
		{Cells: repeated(p, impl.MaxSpace), Segs: repeated(p, 1)},
		{Cells: repeated(p, 1), Segs: repeated(p, impl.MaxSpace)},
		{Cells: repeated(p, 3), Segs: repeated(p, 4)},
		{Eqs: repeated(p, 5000)},
		{Segs: repeated(p, 5000)},
	}
	for _, t := range wrongTerms {
		for k := range kinds {
			for i := range 3 {
				for side := range 2 {
					l := [kinds]pairs{repeated(p, 1), repeated(p, 2), repeated(p, 1), repeated(p, 1)}
					l[k] = repeated(p, 3)
					if side == 0 {
						l[k][i].A = t
					} else {
						l[k][i].B = t
					}
					out = append(out, asnOf(l))
				}
			}
		}
	}
	return out
}

// allNames has every name, and no list of it is full.
func allNames() impl.Asn {
	var a impl.Asn
	for t := impl.Vars + 1; t < impl.Terms; t++ {
		a.Eqs = append(a.Eqs, impl.Pair{A: t, B: t})
	}
	return a
}

func describe(a impl.Asn) string { return fmt.Sprintf("%+v", a) }
