package tests

import (
	"slices"
	"strings"
	"testing"

	"loop.example/g00621/impl"
)

type asns = []impl.Asn

func mustReadAll(t *testing.T, texts ...string) asns {
	t.Helper()
	var l asns
	for _, text := range texts {
		l = append(l, mustRead(t, text))
	}
	return l
}

// wordsOfAll tells a list in one text; nothing: the list is empty.
func wordsOfAll(l asns) string { return strings.Join(asnWords(l), "; ") }

func isNameBy(t int) bool { return t > impl.Vars && t < impl.Terms }

func namesThere(a impl.Asn) []int {
	return slices.DeleteFunc(termsThere(a), func(t int) bool { return !isNameBy(t) })
}

func clonedLists(a impl.Asn) [kinds]pairs {
	l := listsOf(a)
	for k := range l {
		l[k] = slices.Clone(l[k])
	}
	return l
}

// onceBy keeps the first of those that are the same, by what each is with the lesser term ahead.
func onceBy(l pairs) pairs {
	was := map[impl.Pair]bool{}
	var out pairs
	for _, p := range l {
		key := impl.Pair{A: min(p.A, p.B), B: max(p.A, p.B)}
		if !was[key] {
			out = append(out, p)
		}
		was[key] = true
	}
	return out
}

// tidiedBy goes through Eqs once, be they as many as they are: those ahead of a place have no name there, so that nothing changes them any more.
func tidiedBy(a impl.Asn) impl.Asn {
	l := clonedLists(a)
	for i := 0; i < len(l[0]); {
		less, more := min(l[0][i].A, l[0][i].B), max(l[0][i].A, l[0][i].B)
		switch {
		case less == more:
			l[0] = append(l[0][:i:i], l[0][i+1:]...)
		case isNameBy(more):
			l = clonedLists(mapped(asnOf(l), func(t int) int {
				if t == more {
					return less
				}
				return t
			}))
		default:
			i++
		}
	}
	l[0], l[1] = onceBy(l[0]), onceBy(l[1])
	there := termsThere(impl.Asn{Cells: l[2], Segs: l[3]})
	l[1] = slices.DeleteFunc(l[1], func(p impl.Pair) bool {
		for _, t := range []int{p.A, p.B} {
			if p.A != p.B && isNameBy(t) && !slices.Contains(there, t) {
				return true
			}
		}
		return false
	})
	return asnOf(l)
}

func tidyBy(a impl.Asn) (impl.Asn, bool) {
	if !impl.AsnOk(a) {
		return impl.Asn{}, false
	}
	return tidiedBy(a), true
}

func exposeBy(open impl.Asn, t int) (impl.Asn, int, bool) {
	if !impl.AsnOk(open) || t < 0 || t >= impl.Terms {
		return impl.Asn{}, -1, false
	}
	k := knownBy(open)
	if !k.opened() || k.contra() {
		return impl.Asn{}, -1, false
	}
	for i, p := range open.Cells {
		if k.same[p.A][t] {
			return open, i, true
		}
	}
	for i, p := range open.Segs {
		if k.same[p.A][t] {
			if u, ok := unfoldBy(open, i); ok {
				return u, len(open.Cells), true
			}
		}
	}
	return impl.Asn{}, -1, false
}

func freshBy(a impl.Asn) int {
	there := termsThere(a)
	for t := impl.Vars + 1; t < impl.Terms; t++ {
		if !slices.Contains(there, t) {
			return t
		}
	}
	return -1
}

// caseDoneBy takes a case and a right plain command. It puts the name for X into the command, too.
func caseDoneBy(open impl.Asn, c impl.Cmd) (impl.Asn, int) {
	var value, at int
	switch c.Kind {
	case impl.CmLoad, impl.CmStore, impl.CmFree:
		t := c.X
		if c.Kind == impl.CmLoad {
			t = c.Y
		}
		if knownBy(open).begin(t) == 0 {
			return impl.Asn{}, impl.VdFault
		}
		var ok bool
		if open, at, ok = exposeBy(open, t); !ok {
			return impl.Asn{}, impl.VdGave
		}
		value = open.Cells[at].B
	case impl.CmSet:
		value = c.Y
	}
	l := clonedLists(open)
	switch c.Kind {
	case impl.CmStore:
		l[2][at].B = c.Y
		return asnOf(l), impl.VdHolds
	case impl.CmFree:
		l[2] = slices.Delete(l[2], at, at+1)
		return asnOf(l), impl.VdHolds
	}
	f := freshBy(open)
	if f < 0 {
		return impl.Asn{}, impl.VdGave
	}
	put := func(t int) int {
		if t == c.X {
			return f
		}
		return t
	}
	l = clonedLists(mapped(open, put))
	if c.Kind == impl.CmNew {
		l[2] = append(l[2], impl.Pair{A: c.X, B: impl.Nil})
	} else {
		l[0] = append(l[0], impl.Pair{A: c.X, B: put(value)})
	}
	return asnOf(l), impl.VdHolds
}

func doCaseBy(open impl.Asn, c impl.Cmd) (impl.Asn, int) {
	if !impl.AsnOk(open) || !progOkBy(cmds{c}) || c.Kind > impl.CmFree {
		return impl.Asn{}, -1
	}
	if k := knownBy(open); !k.opened() || k.contra() {
		return impl.Asn{}, -1
	}
	return caseDoneBy(open, c)
}

// putOnBy tells what stands behind then, and whether something does.
func putOnBy(l asns, a impl.Asn) (asns, bool) {
	tidy := tidiedBy(a)
	if !roomBy(tidy) || len(l) == 40 {
		return l, false
	}
	return append(slices.Clone(l), tidy), true
}

func putBy(l asns, a impl.Asn) (asns, bool) {
	if len(l) > 40 || !impl.AsnOk(a) || slices.ContainsFunc(l, func(a impl.Asn) bool { return !impl.AsnOk(a) }) {
		return nil, false
	}
	return putOnBy(l, a)
}

func plainDoneBy(l asns, c impl.Cmd) (asns, int) {
	var open, out asns
	for _, a := range l {
		open = append(open, casesBy(a)...)
	}
	for _, a := range open {
		done, v := caseDoneBy(a, c)
		if v != impl.VdHolds {
			return nil, v
		}
		var ok bool
		if out, ok = putOnBy(out, done); !ok {
			return nil, impl.VdGave
		}
	}
	return out, impl.VdHolds
}

func assumedBy(l asns, x, y int, eq bool) (asns, bool) {
	kind := 1
	if eq {
		kind = 0
	}
	var out asns
	for _, a := range l {
		m := clonedLists(a)
		m[kind] = append(m[kind], impl.Pair{A: x, B: y})
		if !roomBy(asnOf(m)) {
			return nil, false
		}
		if len(casesBy(asnOf(m))) > 0 {
			out = append(out, tidiedBy(asnOf(m)))
		}
	}
	return out, true
}

func allEntailBy(l asns, q impl.Asn) bool {
	for _, a := range l {
		if is, _ := entailsBy(a, q); !is {
			return false
		}
	}
	return true
}

func loopDoneBy(l asns, c impl.Cmd) (asns, int) {
	if !allEntailBy(l, c.Inv) {
		return nil, impl.VdInv
	}
	in, _ := assumedBy(asns{c.Inv}, c.X, c.Y, c.Eq)
	out, _ := assumedBy(asns{c.Inv}, c.X, c.Y, !c.Eq)
	turn, v := doneBy(in, c.A)
	if v == impl.VdHolds && !allEntailBy(turn, c.Inv) {
		v = impl.VdInv
	}
	return out, v
}

func branchDoneBy(l asns, c impl.Cmd) (asns, int) {
	yes, ok := assumedBy(l, c.X, c.Y, c.Eq)
	no, can := assumedBy(l, c.X, c.Y, !c.Eq)
	if !ok || !can {
		return nil, impl.VdGave
	}
	yes, v := doneBy(yes, c.A)
	if v != impl.VdHolds {
		return nil, v
	}
	no, v = doneBy(no, c.B)
	if v == impl.VdHolds && len(yes)+len(no) > 40 {
		v = impl.VdGave
	}
	return slices.Concat(yes, no), v
}

// doneBy takes right programs, and states for which there is room.
func doneBy(l asns, prog cmds) (asns, int) {
	v := impl.VdHolds
	for _, c := range prog {
		switch c.Kind {
		case impl.CmIf:
			l, v = branchDoneBy(l, c)
		case impl.CmWhile:
			l, v = loopDoneBy(l, c)
		default:
			l, v = plainDoneBy(l, c)
		}
		if v != impl.VdHolds {
			return nil, v
		}
	}
	return l, v
}

func execOneBy(a impl.Asn, c impl.Cmd) (asns, int) {
	if !roomBy(a) || !progOkBy(cmds{c}) || c.Kind > impl.CmFree {
		return nil, -1
	}
	return doneBy(asns{a}, cmds{c})
}

func execBy(l asns, prog cmds) (asns, int) {
	if len(l) > 40 || !progOkBy(prog) || slices.ContainsFunc(l, func(a impl.Asn) bool { return !roomBy(a) }) {
		return nil, -1
	}
	return doneBy(l, prog)
}

func assumeBy(a impl.Asn, x, y int, eq bool) (asns, bool) {
	if !roomBy(a) || x < 0 || y < 0 || x > 15 || y > 15 {
		return nil, false
	}
	return assumedBy(asns{a}, x, y, eq)
}

func plainBy(a impl.Asn) bool { return impl.AsnOk(a) && len(namesThere(a)) == 0 }

func verifyBy(pre impl.Asn, prog cmds, post impl.Asn) int {
	if !plainBy(post) {
		return -1
	}
	l, v := execBy(asns{pre}, prog)
	if v == impl.VdHolds && !allEntailBy(l, post) {
		return impl.VdPost
	}
	return v
}

// failsBy tells that a can't hold, whatever the names are that are not tried yet.
func failsBy(s impl.State, a impl.Asn, names []int) bool {
	open := func(p impl.Pair) bool { return slices.Contains(names, p.A) || slices.Contains(names, p.B) }
	return slices.ContainsFunc(a.Eqs, func(p impl.Pair) bool { return !open(p) && s.Terms[p.A] != s.Terms[p.B] }) ||
		slices.ContainsFunc(a.Nes, func(p impl.Pair) bool { return !open(p) && s.Terms[p.A] == s.Terms[p.B] }) ||
		slices.ContainsFunc(a.Cells, func(p impl.Pair) bool { return !open(p) && s.Heap[s.Terms[p.A]] != s.Terms[p.B] })
}

// nextBy is a name to try with the addresses from and to: just one, if one of Eqs or a cell tells it.
func nextBy(s impl.State, a impl.Asn, names []int) (name, from, to int) {
	is := func(t int) bool { return slices.Contains(names, t) }
	for _, p := range a.Eqs {
		if is(p.A) && !is(p.B) {
			return p.A, s.Terms[p.B], s.Terms[p.B]
		}
		if is(p.B) && !is(p.A) {
			return p.B, s.Terms[p.A], s.Terms[p.A]
		}
	}
	for _, p := range a.Cells {
		if to := s.Heap[s.Terms[p.A]]; is(p.B) && !is(p.A) && to != gone {
			return p.B, to, to
		}
	}
	return names[0], 0, impl.Addrs
}

// holdsWithBy tries one name after the other, and none for which it fails already.
func holdsWithBy(s impl.State, a impl.Asn, names []int) bool {
	if failsBy(s, a, names) {
		return false
	}
	if len(names) == 0 {
		return holdsBy(s, a)
	}
	name, from, to := nextBy(s, a, names)
	left := slices.DeleteFunc(slices.Clone(names), func(t int) bool { return t == name })
	s = cloneState(s)
	for x := from; x <= to; x++ {
		s.Terms[name] = x
		if holdsWithBy(s, a, left) {
			return true
		}
	}
	return false
}

// holdsSomehow is asked for any addresses of its names, be they as many as they are.
func holdsSomehow(s impl.State, a impl.Asn) bool { return holdsWithBy(s, a, namesThere(a)) }

func someHolds(s impl.State, l asns) bool {
	return slices.ContainsFunc(l, func(a impl.Asn) bool { return holdsSomehow(s, a) })
}

// coversBy counts through all addresses for the names.
func coversBy(l asns, s impl.State) int {
	bad := func(a impl.Asn) bool { return !impl.AsnOk(a) || len(namesThere(a)) > 3 }
	if len(l) > 40 || !impl.StateOk(s) || slices.ContainsFunc(l, bad) {
		return -1
	}
	for i, a := range l {
		for n := range 7 * 7 * 7 {
			v := cloneState(s)
			for j, name := range namesThere(a) {
				v.Terms[name] = []int{n % 7, n / 7 % 7, n / 49}[j]
			}
			if holdsBy(v, a) {
				return i
			}
		}
	}
	return -1
}

func alwaysBy(l asns, q impl.Asn) bool {
	return impl.AsnOk(q) && len(l) <= 40 && allEntailBy(l, q)
}

func heldBy(inv impl.Asn, x, y int, eq bool, body cmds) int {
	_, v := execBy(asns{inv}, cmds{{Kind: impl.CmWhile, X: x, Y: y, Eq: eq, Inv: inv, A: body}})
	return v
}

func checkTidy(t *testing.T, a impl.Asn) impl.Asn {
	t.Helper()
	want, can := tidyBy(a)
	got, ok := impl.Tidy(a)
	if ok != can || !sameAsn(got, want) {
		t.Fatalf("Tidy(%s) = %s, %v, not %s, %v", describe(a), describe(got), ok, describe(want), can)
	}
	return got
}

func checkExpose(t *testing.T, open impl.Asn, term int) {
	t.Helper()
	want, place, can := exposeBy(open, term)
	if got, i, ok := impl.Expose(open, term); ok != can || i != place || !sameAsn(got, want) {
		t.Fatalf("Expose(%s, %d) = %s, %d, %v, not %s, %d, %v", describe(open), term, describe(got), i, ok, describe(want), place, can)
	}
}

func checkDoCase(t *testing.T, open impl.Asn, c impl.Cmd) (impl.Asn, int) {
	t.Helper()
	want, v := doCaseBy(open, c)
	got, code := impl.DoCase(open, c)
	if code != v || !sameAsn(got, want) {
		t.Fatalf("DoCase(%s, %+v) = %s, %d, not %s, %d", describe(open), c, describe(got), code, describe(want), v)
	}
	return got, code
}

func checkPut(t *testing.T, l asns, a impl.Asn) {
	t.Helper()
	want, can := putBy(l, a)
	if got, ok := impl.Put(l, a); ok != can || !sameAsns(got, want) {
		t.Fatalf("Put(%d of them, %s) = %d of them, %v, not %d, %v", len(l), describe(a), len(got), ok, len(want), can)
	}
}

func checkExecOne(t *testing.T, a impl.Asn, c impl.Cmd) (asns, int) {
	t.Helper()
	want, v := execOneBy(a, c)
	l, code := impl.ExecOne(a, c)
	if code != v || !sameAsns(l, want) {
		t.Fatalf("ExecOne(%s, %+v) = %v, %d, not %v, %d", describe(a), c, l, code, want, v)
	}
	return l, code
}

func checkExec(t *testing.T, states asns, prog cmds) (asns, int) {
	t.Helper()
	want, v := execBy(states, prog)
	l, code := impl.Exec(states, prog)
	if code != v || !sameAsns(l, want) {
		t.Fatalf("Exec(%v, %s) = %v, %d, not %v, %d", states, describeProg(prog), l, code, want, v)
	}
	return l, code
}

func checkAssume(t *testing.T, a impl.Asn, x, y int, eq bool) asns {
	t.Helper()
	want, can := assumeBy(a, x, y, eq)
	l, ok := impl.Assume(a, x, y, eq)
	if ok != can || !sameAsns(l, want) {
		t.Fatalf("Assume(%s, %d, %d, %v) = %v, %v, not %v, %v", describe(a), x, y, eq, l, ok, want, can)
	}
	return l
}

func checkVerify(t *testing.T, pre impl.Asn, prog cmds, post impl.Asn) int {
	t.Helper()
	v := impl.Verify(pre, prog, post)
	if want := verifyBy(pre, prog, post); v != want {
		t.Fatalf("Verify(%s; %s; %s) = %d, not %d", describe(pre), describeProg(prog), describe(post), v, want)
	}
	return v
}

func checkCovers(t *testing.T, l asns, s impl.State) int {
	t.Helper()
	i := impl.Covers(l, s)
	if want := coversBy(l, s); i != want {
		t.Fatalf("Covers(%v, %s) = %d, not %d", l, describeState(s), i, want)
	}
	return i
}

func checkAlways(t *testing.T, l asns, q impl.Asn) bool {
	t.Helper()
	is := impl.Always(l, q)
	if is != alwaysBy(l, q) {
		t.Fatalf("Always(%v, %s) = %v", l, describe(q), is)
	}
	return is
}

func checkHeld(t *testing.T, inv impl.Asn, x, y int, eq bool, body cmds) int {
	t.Helper()
	v := impl.Held(inv, x, y, eq, body)
	if want := heldBy(inv, x, y, eq, body); v != want {
		t.Fatalf("Held(%s, %d, %d, %v, %s) = %d, not %d", describe(inv), x, y, eq, describeProg(body), v, want)
	}
	return v
}
