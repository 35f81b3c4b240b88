package tests

import (
	"slices"
	"testing"

	"loop.example/g00621/impl"
)

// Where what is inferred holds a program does not fail, and ends where one of what comes of it is told.
func TestWhatIsInferredIsEnough(t *testing.T) {
	var ran, ended, alike int
	cells := map[int]int{}
	drawnWants(9000, func(d *draw, l cmds) {
		pre, states, v := impl.Infer(l)
		if v != impl.VdHolds {
			return
		}
		cells[len(pre.Cells)]++
		for range 3 {
			s, ok := d.stateOf(pre)
			if !ok || !impl.Holds(s, pre) {
				t.Fatalf("no state of %s", asnWord(pre))
			}
			ran++
			if sameVars(s) {
				alike++
			}
			out, code := impl.Run(s, l, d.picks(), 300)
			if code == impl.RsFault || code == impl.RsFuel || code < 0 {
				t.Fatalf("Infer(%q) = %s, but from %s it ends with %d", progWord(l), asnWord(pre), describeState(s), code)
			}
			if code != impl.RsDone {
				continue
			}
			ended++
			if !someHolds(out, states) {
				t.Fatalf("Infer(%q) = %s, %q, but from %s it ends in %s", progWord(l), asnWord(pre), wordsOfAll(states), describeState(s), describeState(out))
			}
		}
	})
	for n := range impl.MaxSpace {
		if cells[n] < 200 {
			t.Fatalf("cells are wanted so often: %v", cells)
		}
	}
	if min(ran, ended, alike) < 5000 {
		t.Fatalf("%d ran, %d ended, %d with variables that are alike", ran, ended, alike)
	}
}

func sameVars(s impl.State) bool {
	l := slices.Clone(s.Terms[1 : impl.Vars+1])
	return len(ascendingBy(l)) < impl.Vars
}

// In small states all can be asked: of programs of up to two commands, wherever what they want holds.
func TestInferredOnesInSmallStates(t *testing.T) {
	var all cmds
	for _, w := range []string{"a := nil", "a := b", "b := a", "a := [a]", "a := [b]", "b := [a]", "[a] := nil", "[a] := b", "[b] := a", "new a", "new b", "free a", "free b"} {
		all = append(all, mustCmd(t, w))
	}
	var small []impl.State
	smallStates(func(s impl.State) { small = append(small, s) })
	ran, fails := 0, 0
	ask := func(l cmds) {
		pre, states, v := impl.Infer(l)
		if v != impl.VdHolds {
			return
		}
		for _, s := range small {
			out, code := impl.Run(s, l, []int{4, 2}, 20)
			if !holdsSomehow(s, pre) {
				if code == impl.RsFault {
					fails++
				}
				continue
			}
			ran++
			if code != impl.RsDone || !someHolds(out, states) {
				t.Fatalf("Infer(%q) = %s, %q, but from %s it ends in %s, %d", progWord(l), asnWord(pre), wordsOfAll(states), describeState(s), describeState(out), code)
			}
		}
	}
	ask(nil)
	for _, x := range all {
		ask(cmds{x})
		for _, y := range all {
			ask(cmds{x, y})
		}
	}
	if ran < 2000 || fails < 10000 {
		t.Fatalf("%d ran, %d fail", ran, fails)
	}
}

// lacking is s without the cell that is told, where what it is at is nil: the others hold there as they did.
func lacking(s impl.State, pre impl.Asn, i int) impl.State {
	s = cloneState(s)
	x := pre.Cells[i].A
	s.Heap[s.Terms[x]] = gone
	s.Terms[x] = impl.Nil
	for _, p := range pre.Cells {
		if p.B == x {
			s.Heap[s.Terms[p.A]] = impl.Nil
		}
	}
	return s
}

// Each cell of what is inferred is needed: without it, in a state in which the others hold, the program fails.
func TestEachCellIsNeeded(t *testing.T) {
	var fails, room, elsewhere int
	drawnWants(6000, func(d *draw, l cmds) {
		pre, _, v := impl.Infer(l)
		if v != impl.VdHolds {
			return
		}
		if i := impl.Needless(pre, l); i != -1 {
			t.Fatalf("Infer(%q) = %s, but %d is needless", progWord(l), asnWord(pre), i)
		}
		makes := slices.ContainsFunc(l, func(c impl.Cmd) bool { return c.Kind == impl.CmNew })
		for i := range pre.Cells {
			less, ok := impl.Without(pre, 2, i)
			if _, w := impl.Exec(asns{less}, l); !ok || w != impl.VdFault && w != impl.VdGave {
				t.Fatalf("Infer(%q) = %s, without %d it is %d", progWord(l), asnWord(pre), i, w)
			}
			s, ok := d.stateOf(pre)
			if !ok {
				t.Fatalf("no state of %s", asnWord(pre))
			}
			gaps := lacking(s, pre, i)
			if !impl.Holds(gaps, less) {
				t.Fatalf("%s does not hold in %s", asnWord(less), describeState(gaps))
			}
			_, code := impl.Run(gaps, l, d.picks(), 300)
			if code != impl.RsFault && (code != impl.RsRoom || !makes) {
				t.Fatalf("Infer(%q) = %s, but from %s without %d it ends with %d", progWord(l), asnWord(pre), describeState(gaps), i, code)
			}
			if code == impl.RsFault {
				fails++
			} else {
				room++
			}
			// Nor does it do with another address, if nothing new may come to be there.
			s.Heap[s.Terms[pre.Cells[i].A]] = gone
			if _, code := impl.Run(s, l, nil, 300); !makes && (code != impl.RsFault || !impl.Holds(s, less)) {
				t.Fatalf("Infer(%q) = %s, but from %s without %d it ends with %d", progWord(l), asnWord(pre), describeState(s), i, code)
			} else if !makes {
				elsewhere++
			}
		}
	})
	if min(fails, elsewhere) < 2000 || room > fails/10 {
		t.Fatalf("%d fail, %d fail with an address, %d have no room", fails, elsewhere, room)
	}
}

// runsWithout runs a program where all but one cell is, and tells whether it came to its end.
func runsWithout(t *testing.T, d *draw, pre impl.Asn, i int, l cmds) bool {
	t.Helper()
	less, ok := impl.Without(pre, 2, i)
	if !ok {
		t.Fatalf("Needless(%s, %q) = %d", asnWord(pre), progWord(l), i)
	}
	s, ok := d.stateOf(less)
	if !ok {
		return false
	}
	_, code := impl.Run(s, l, d.picks(), 400)
	if code == impl.RsFault {
		t.Fatalf("Needless(%s, %q) = %d, but it fails from %s", asnWord(pre), progWord(l), i, describeState(s))
	}
	return code == impl.RsDone
}

// Without a cell that is needless a program does not fail where it is begun right; no cell ahead of it is needless.
func TestWithoutWhatIsNeedless(t *testing.T) {
	var ended, none, behind, branches int
	ask := func(d *draw, pre impl.Asn, l cmds) {
		t.Helper()
		i := impl.Needless(pre, l)
		if i < 0 {
			none++
			return
		}
		if i > 0 {
			behind++
		}
		for j := range i {
			less, _ := impl.Without(pre, 2, j)
			if _, v := impl.Exec(asns{less}, l); v == impl.VdHolds {
				t.Fatalf("Needless(%s, %q) = %d, not %d", asnWord(pre), progWord(l), i, j)
			}
		}
		for range 3 {
			if runsWithout(t, d, pre, i, l) {
				ended++
				if !impl.IsPlain(l) {
					branches++
				}
			}
		}
	}
	drawnTriples(t, 5000, func(d *draw, x triple) { ask(d, d.beside(x.pre, 1+d.below(2)), x.prog) })
	drawnWants(4000, func(d *draw, l cmds) {
		if a, ok := impl.Missing(l); ok {
			ask(d, d.beside(a, 1+d.below(2)), l)
		}
	})
	if min(ended, none, behind, branches) < 300 {
		t.Fatalf("%d end without what is needless, %d of them with branches; %d times it is not the first, %d times none is", ended, branches, behind, none)
	}
}

// untouched is a drawn assertion, most often about variables that l does not change.
func (d *draw) untouched(l cmds) impl.Asn {
	var free []int
	for x := range impl.Vars + 1 {
		if !slices.Contains(changesBy(l), x) {
			free = append(free, x)
		}
	}
	if d.below(12) == 0 {
		free = append(free, d.below(impl.Terms))
	}
	size := 1 + d.below(2)
	if d.below(8) == 0 {
		size = 5
	}
	pieces := d.below(size + 1)
	cells := d.below(pieces + 1)
	a := impl.Asn{
		Eqs:   d.pairs(d.below(size), len(free)),
		Nes:   d.pairs(d.below(size), len(free)),
		Cells: d.pairs(cells, len(free)),
		Segs:  d.pairs(pieces-cells, len(free)),
	}
	return mapped(a, func(i int) int { return free[i] })
}

// fourCells makes four, each with the one ahead of it, and lets them all go.
const fourCells = "new a new b [b] := a new a [a] := b new b [b] := a a := [b] free b b := [a] free a a := [b] free b free a"

// drawnFrames hands out triples, of which many are proved, each with something beside it.
func drawnFrames(t *testing.T, n int, do func(d *draw, x triple, extra impl.Asn)) {
	t.Helper()
	drawnTriples(t, n, func(d *draw, x triple) { do(d, x, d.untouched(x.prog)) })
	// What is made takes up to four places for a while.
	d := draw(20)
	for range n / 10 {
		to := d.otherVars()
		l := permuted(mustProg(t, fourCells), to)
		var extra impl.Asn
		for x := 1; x <= impl.Vars; x++ {
			if d.below(6) > 0 && !slices.Contains(changesBy(l), x) {
				extra.Cells = append(extra.Cells, impl.Pair{A: x})
			}
		}
		do(&d, triple{prog: l}, extra)
	}
	// What comes of what is inferred is proved.
	drawnWants(n/3, func(d *draw, l cmds) {
		pre, states, v := impl.Infer(l)
		if v == impl.VdHolds && impl.Plain(states[0]) {
			do(d, triple{pre, l, states[0]}, d.untouched(l))
		}
	})
}

// What is verified without loops is so with something beside both, if that is not too much; and with that it never fails, and ends right.
func TestWhatIsVerifiedIsSoBesideOthers(t *testing.T) {
	var holds, refused, tooMuch, ended, pieces int
	drawnFrames(t, 15000, func(d *draw, x triple, extra impl.Asn) {
		if impl.Verify(x.pre, x.prog, x.post) != impl.VdHolds {
			return
		}
		v := impl.Framed(x.pre, x.prog, x.post, extra)
		ahead, ok := bothBy(x.pre, extra)
		after, can := bothBy(x.post, extra)
		changed := slices.ContainsFunc(changesBy(x.prog), func(y int) bool { return slices.Contains(termsThere(extra), y) })
		if v == -1 {
			refused++
			if plainBy(extra) && !changed && ok && can && roomBy(ahead) {
				t.Fatalf("%s beside %s is refused", x.words(), asnWord(extra))
			}
			return
		}
		if changed || v != impl.Verify(ahead, x.prog, after) {
			t.Fatalf("%s beside %s: %d", x.words(), asnWord(extra), v)
		}
		if impl.Loops(x.prog) == 0 {
			switch v {
			case impl.VdHolds:
				holds++
				pieces += len(extra.Cells) + len(extra.Segs)
			case impl.VdGave:
				tooMuch++
			default:
				t.Fatalf("%s is verified, beside %s it is %d", x.words(), asnWord(extra), v)
			}
		}
		if v == impl.VdHolds {
			for range 2 {
				ended += checkProved(t, d, triple{ahead, x.prog, after})
			}
		}
	})
	if min(holds, ended) < 1000 || refused < 200 || pieces < holds/2 || tooMuch < 10 || tooMuch > holds/5 {
		t.Fatalf("%d hold with %d pieces beside them, %d are refused, %d are too much, %d come to an end", holds, pieces, refused, tooMuch, ended)
	}
}

// Two that are verified without loops are so beside each other, one behind the other, if neither changes what the other tells of.
func TestTwoBesideEachOther(t *testing.T) {
	first := []triple{}
	for _, c := range provedTexts {
		pre, prog, post := proved(t, c.pre, c.prog, c.post)
		if impl.Loops(prog) == 0 {
			first = append(first, triple{pre, prog, post})
		}
	}
	d := draw(19)
	both := 0
	for range 4000 {
		x := first[d.below(len(first))]
		to := d.otherVars()
		y := first[d.below(len(first))]
		y = triple{mapped(y.pre, func(t int) int { return to[t] }), permuted(y.prog, to), mapped(y.post, func(t int) int { return to[t] })}
		if impl.Framed(x.pre, x.prog, x.post, y.pre) != impl.VdHolds || impl.Framed(y.pre, y.prog, y.post, x.post) != impl.VdHolds {
			continue
		}
		all, ok := impl.Seq(x.prog, y.prog)
		pre, _ := impl.Star(x.pre, y.pre)
		post, _ := impl.Star(x.post, y.post)
		if v := impl.Verify(pre, all, post); ok && v != impl.VdHolds && v != impl.VdGave {
			t.Fatalf("%s, then %s: %d", x.words(), y.words(), v)
		}
		both++
	}
	if both < 100 {
		t.Fatalf("%d beside each other", both)
	}
}
