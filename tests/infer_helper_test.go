package tests

import (
	"slices"
	"strconv"
	"strings"
	"testing"

	"loop.example/g00621/impl"
)

func isPlainBy(l cmds) bool {
	return progOkBy(l) && !slices.ContainsFunc(l, func(c impl.Cmd) bool { return c.Kind > impl.CmFree })
}

// wantsAt is the term where a plain command wants a cell; -1: it wants none.
func wantsAt(c impl.Cmd) int {
	switch c.Kind {
	case impl.CmLoad:
		return c.Y
	case impl.CmStore, impl.CmFree:
		return c.X
	}
	return -1
}

// cellsBy tells all by words. Where a cell is wanted it begins again, with that cell there from the start.
func cellsBy(l cmds, wanted []string) ([]string, bool) {
	is := map[int]string{}
	for t := range impl.Vars + 1 {
		is[t] = termWord(t)
	}
	there, was := map[string]string{}, map[string]bool{"nil": true}
	for _, w := range wanted {
		x, in, _ := strings.Cut(w, ">")
		there[x], was[x] = in, true
	}
	for i, c := range l {
		x := is[wantsAt(c)]
		if _, ok := there[x]; wantsAt(c) >= 0 && !ok {
			if was[x] || len(wanted) == 5 {
				return nil, false
			}
			return cellsBy(l, append(slices.Clone(wanted), x+">_"+strconv.Itoa(len(wanted)+1)))
		}
		switch c.Kind {
		case impl.CmSet:
			is[c.X] = is[c.Y]
		case impl.CmLoad:
			is[c.X] = there[x]
		case impl.CmStore:
			there[x] = is[c.Y]
		case impl.CmFree:
			delete(there, x)
		case impl.CmNew:
			made := "made by " + strconv.Itoa(i)
			is[c.X], there[made], was[made] = made, "nil", true
		}
	}
	return wanted, true
}

func missingBy(t *testing.T, l cmds) (impl.Asn, bool) {
	t.Helper()
	if !isPlainBy(l) {
		return impl.Asn{}, false
	}
	words, ok := cellsBy(l, nil)
	return anyOrder(t, strings.Join(words, " ")), ok
}

func inferBy(t *testing.T, l cmds) (impl.Asn, asns, int) {
	t.Helper()
	if !progOkBy(l) {
		return impl.Asn{}, nil, -1
	}
	pre, ok := missingBy(t, l)
	if !ok {
		return impl.Asn{}, nil, impl.VdGave
	}
	states, v := execBy(asns{pre}, l)
	if v != impl.VdHolds {
		return impl.Asn{}, nil, v
	}
	return pre, states, v
}

func withoutCell(a impl.Asn, i int) impl.Asn {
	a.Cells = lessBy(a.Cells, i)
	return a
}

func needlessBy(pre impl.Asn, l cmds) int {
	if _, v := execBy(asns{pre}, l); v != impl.VdHolds {
		return -2
	}
	for i := range pre.Cells {
		if _, v := execBy(asns{withoutCell(pre, i)}, l); v == impl.VdHolds {
			return i
		}
	}
	return -1
}

func bothBy(a, b impl.Asn) (impl.Asn, bool) {
	x, y := listsOf(a), listsOf(b)
	for k := range x {
		x[k] = slices.Concat(x[k], y[k])
	}
	both := asnOf(x)
	return both, len(x[0]) <= 12 && len(x[1]) <= 12 && len(x[2])+len(x[3]) <= 6
}

// framedBy asks for each reason by itself.
func framedBy(pre impl.Asn, l cmds, post, extra impl.Asn) int {
	if !roomBy(pre) || !progOkBy(l) || !plainBy(post) || !plainBy(extra) {
		return -1
	}
	for _, x := range changesBy(l) {
		if slices.Contains(termsThere(extra), x) {
			return -1
		}
	}
	ahead, ok := bothBy(pre, extra)
	after, can := bothBy(post, extra)
	if !ok || !can || !roomBy(ahead) {
		return -1
	}
	return verifyBy(ahead, l, after)
}

func checkMissing(t *testing.T, l cmds) (impl.Asn, bool) {
	t.Helper()
	want, can := missingBy(t, l)
	got, ok := impl.Missing(l)
	if ok != can || !sameAsn(got, want) {
		t.Fatalf("Missing(%s) = %s, %v, not %s, %v", describeProg(l), describe(got), ok, describe(want), can)
	}
	return got, ok
}

func checkInfer(t *testing.T, l cmds) (impl.Asn, asns, int) {
	t.Helper()
	want, come, verdict := inferBy(t, l)
	pre, states, v := impl.Infer(l)
	if v != verdict || !sameAsn(pre, want) || !sameAsns(states, come) {
		t.Fatalf("Infer(%s) = %s, %q, %d, not %s, %q, %d", describeProg(l), describe(pre), wordsOfAll(states), v, describe(want), wordsOfAll(come), verdict)
	}
	return pre, states, v
}

func checkNeedless(t *testing.T, pre impl.Asn, l cmds) int {
	t.Helper()
	i := impl.Needless(pre, l)
	if want := needlessBy(pre, l); i != want {
		t.Fatalf("Needless(%s, %s) = %d, not %d", describe(pre), describeProg(l), i, want)
	}
	return i
}

func checkFramed(t *testing.T, pre impl.Asn, l cmds, post, extra impl.Asn) int {
	t.Helper()
	v := impl.Framed(pre, l, post, extra)
	if want := framedBy(pre, l, post, extra); v != want {
		t.Fatalf("Framed(%s; %s; %s; %s) = %d, not %d", describe(pre), describeProg(l), describe(post), describe(extra), v, want)
	}
	return v
}

// wanting is a drawn plain program of so many commands, of which most find a cell where they want one, or may have one there.
func (d *draw) wanting(n int) cmds {
	var l cmds
	for len(l) < n {
		c := d.plainCmd(d.below(5))
		if d.below(4) == 0 {
			c.X = 1 + d.below(impl.Vars)
		}
		more := append(slices.Clone(l), c)
		if _, ok := cellsBy(more, nil); ok || d.below(40) == 0 {
			l = more
		}
	}
	return l
}

// drawnWants hands out drawn plain programs, of all sizes.
func drawnWants(n int, do func(d *draw, l cmds)) {
	d := draw(18)
	for i := range n {
		size := d.below(9)
		if i%5 == 0 {
			size = d.below(impl.MaxCmds + 1)
		}
		do(&d, d.wanting(size))
	}
}
