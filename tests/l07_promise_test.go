package tests

import (
	"slices"
	"testing"

	"loop.example/g00621/impl"
)

// stateOf is a drawn state in which a holds, if one is found: what begins at its pieces is apart, and a segment that has something has up to three.
func (d *draw) stateOf(a impl.Asn) (impl.State, bool) {
	for range 30 {
		open := choiceBy(a, d.below(1<<len(a.Segs)))
		k := knownBy(open)
		s := impl.State{Terms: termsWith(), Heap: heapWith()}
		left := []int{1, 2, 3, 4, 5, 6}
		take := func() int {
			if len(left) == 0 {
				return 0
			}
			i := d.below(len(left))
			x := left[i]
			left = slices.Delete(left, i, i+1)
			return x
		}
		for x := 1; x < impl.Terms; x++ {
			switch {
			case k.class(x) != x:
				s.Terms[x] = s.Terms[k.class(x)]
			case k.begin(x) > 0:
				s.Terms[x] = take()
			case d.below(2) == 0:
				s.Terms[x] = d.below(impl.Addrs + 1)
			}
		}
		for _, p := range open.Cells {
			s.Heap[s.Terms[p.A]] = s.Terms[p.B]
		}
		for _, p := range open.Segs {
			x := s.Terms[p.A]
			for range d.below(3) {
				if y := take(); y > 0 {
					s.Heap[x] = y
					x = y
				}
			}
			s.Heap[x] = s.Terms[p.B]
		}
		s.Heap[0] = gone
		if holdsBy(s, a) {
			return s, true
		}
	}
	return impl.State{}, false
}

// headVar is a drawn variable at which a piece begins, or now and then any other one.
func (d *draw) headVar(a impl.Asn) int {
	k := knownBy(a)
	var l []int
	for x := 1; x <= impl.Vars; x++ {
		if k.begin(x) > 0 {
			l = append(l, x)
		}
	}
	if len(l) == 0 || d.below(8) == 0 {
		return d.variable()
	}
	return l[d.below(len(l))]
}

// cmdOn is a drawn plain command that most often can be done to a.
func (d *draw) cmdOn(a impl.Asn) impl.Cmd {
	c := d.plainCmd(d.below(5))
	switch c.Kind {
	case impl.CmLoad:
		c.Y = d.headVar(a)
	case impl.CmStore, impl.CmFree:
		c.X = d.headVar(a)
	}
	if c.Kind != impl.CmNew && c.Kind != impl.CmFree && d.below(8) == 0 {
		c.Y = c.X
	}
	return c
}

// drawnCases hands out drawn states, each with a case that holds there and a plain command.
func drawnCases(t *testing.T, n int, do func(d *draw, s impl.State, open impl.Asn, c impl.Cmd)) {
	t.Helper()
	drawnMatches(t, n, func(d *draw, s impl.State, open, _ impl.Asn) {
		do(d, s, open, d.cmdOn(open))
	})
}

// What is exposed is there: it holds where that held, with one more name, and has a cell at that term, of a list its first one.
func TestWhatIsExposedIsThere(t *testing.T) {
	var cells, segs int
	drawnCases(t, 8000, func(d *draw, s impl.State, open impl.Asn, _ impl.Cmd) {
		for term := range impl.Terms {
			checkExpose(t, open, term)
			got, i, ok := impl.Expose(open, term)
			if !ok {
				continue
			}
			p := got.Cells[i]
			if s.Terms[p.A] != s.Terms[term] || s.Heap[s.Terms[term]] == gone || !impl.Alike(got, p.A, term) {
				t.Fatalf("Expose(%s, %d) = %s, %d in %s", asnWord(open), term, asnWord(got), i, describeState(s))
			}
			if len(got.Cells) == len(open.Cells) {
				cells++
				if !holdsBy(s, got) {
					t.Fatalf("Expose(%s, %d) = %s in %s", asnWord(open), term, asnWord(got), describeState(s))
				}
				continue
			}
			segs++
			v := cloneState(s)
			v.Terms[p.B] = s.Heap[s.Terms[term]]
			if impl.Has(open, p.B) || !impl.Holds(v, got) || i != len(open.Cells) {
				t.Fatalf("Expose(%s, %d) = %s, %d in %s", asnWord(open), term, asnWord(got), i, describeState(s))
			}
		}
	})
	if min(cells, segs) < 1000 {
		t.Fatalf("%d cells, %d segments", cells, segs)
	}
}

// holdsWithFresh asks with the names of before as they are in s, and any addresses for others.
func holdsWithFresh(s impl.State, a, before impl.Asn) bool {
	names := slices.DeleteFunc(namesThere(a), func(t int) bool { return slices.Contains(termsThere(before), t) })
	return holdsWithBy(s, a, names)
}

// What comes of a plain command holds behind it, whatever new addresses are; and it can be done there.
func TestWhatComesOfACaseHolds(t *testing.T) {
	var done [5]int
	var faults, gaveUp, steps int
	drawnCases(t, 24000, func(d *draw, s impl.State, open impl.Asn, c impl.Cmd) {
		got, v := checkDoCase(t, open, c)
		switch v {
		case impl.VdFault:
			faults++
			return
		case impl.VdGave:
			gaveUp++
			return
		}
		done[c.Kind]++
		for pick := range impl.Addrs {
			out, code := impl.Step(s, c, pick)
			if code == impl.RsRoom && c.Kind == impl.CmNew {
				break
			}
			if code != impl.RsDone {
				t.Fatalf("Step(%s, %q) = %d, but DoCase(%s) = %s", describeState(s), progWord(cmds{c}), code, asnWord(open), asnWord(got))
			}
			if !holdsWithFresh(out, got, open) {
				t.Fatalf("DoCase(%s, %q) = %s in %s", asnWord(open), progWord(cmds{c}), asnWord(got), describeState(out))
			}
			steps++
			if c.Kind != impl.CmNew {
				break
			}
		}
	})
	if slices.Min(done[:]) < 300 || faults < 300 || gaveUp < 30 || steps < 3000 {
		t.Fatalf("%v are done, %d fail, %d give up, %d steps", done, faults, gaveUp, steps)
	}
}

// What is done to a case is one of what is done to all, at its place; and that holds behind it.
func TestWhatIsDoneToACaseIsDoneToAll(t *testing.T) {
	var all, many, fails int
	drawnRoom(t, 9000, func(d *draw, s impl.State, a impl.Asn, held bool) {
		c := d.cmdOn(a)
		l, v := checkExecOne(t, a, c)
		open, _ := impl.Cases(a)
		if v != impl.VdHolds {
			fails++
			// One of them is not done, or can't be put, or they are too many.
			if len(open) <= impl.MaxStates && !slices.ContainsFunc(open, func(x impl.Asn) bool {
				done, w := impl.DoCase(x, c)
				return w == v || w == impl.VdHolds && !roomBy(tidiedBy(done)) && v == impl.VdGave
			}) {
				t.Fatalf("ExecOne(%s, %q) = %d", asnWord(a), progWord(cmds{c}), v)
			}
			return
		}
		all++
		if len(l) > 1 {
			many++
		}
		for i, x := range open {
			done, w := impl.DoCase(x, c)
			if w != impl.VdHolds || len(l) != len(open) || !sameAsn(tidiedBy(done), l[i]) {
				t.Fatalf("ExecOne(%s, %q) = %q, but of %s comes %s", asnWord(a), progWord(cmds{c}), wordsOfAll(l), asnWord(x), asnWord(done))
			}
		}
		if !held {
			return
		}
		if out, code := impl.Step(s, c, d.below(6)); code == impl.RsFault || code == impl.RsDone && !holdsSomehow(out, l[impl.CaseOf(s, a)]) {
			t.Fatalf("ExecOne(%s, %q) = %q in %s", asnWord(a), progWord(cmds{c}), wordsOfAll(l), describeState(out))
		}
	})
	if min(all, many, fails) < 500 {
		t.Fatalf("%d are done, %d of them in many cases, %d are not", all, many, fails)
	}
}

// fullOfEqs has as many of Eqs as there is room for; those that come are so in s, and most of variables.
func (d *draw) fullOfEqs(s impl.State, a impl.Asn) impl.Asn {
	l := clonedLists(a)
	for len(l[0])+len(l[3]) < impl.MaxPure {
		p := impl.Pair{A: d.below(impl.Vars + 2)}
		if p.B = d.termAt(s, s.Terms[p.A]); p.B > impl.Vars+2 {
			p.B = p.A
		}
		l[0] = append(l[0], p)
	}
	return asnOf(l)
}

// Where Eqs are full what is done to a case may be one too many of them: it is put all the same, and holds behind it.
func TestWhatIsDoneToFullOnesIsPut(t *testing.T) {
	var over, held, many int
	drawnRoom(t, 8000, func(d *draw, s impl.State, a impl.Asn, _ bool) {
		a = d.fullOfEqs(s, a)
		c := d.cmdOn(a)
		l, v := checkExecOne(t, a, c)
		for i, open := range casesBy(a) {
			done, w := impl.DoCase(open, c)
			if w != impl.VdHolds || len(done.Eqs) <= impl.MaxPure {
				continue
			}
			over++
			// A case with so many of Eqs has no segments, and Eqs of a value and of what X is not are ten at most.
			want := tidiedBy(done)
			if len(done.Segs) > 0 || len(want.Eqs) > 11 {
				t.Fatalf("DoCase(%s, %q) = %s", asnWord(open), progWord(cmds{c}), describe(done))
			}
			if one, w := impl.ExecOne(open, c); w != impl.VdHolds || len(one) != 1 || !sameAsn(one[0], want) {
				t.Fatalf("ExecOne(%s, %q) = %v, %d, not %s", asnWord(open), progWord(cmds{c}), one, w, asnWord(want))
			}
			if v == impl.VdHolds && !sameAsn(l[i], want) {
				t.Fatalf("ExecOne(%s, %q) = %q, but of %s comes %s", asnWord(a), progWord(cmds{c}), wordsOfAll(l), asnWord(open), asnWord(want))
			}
			if len(l) > 1 {
				many++
			}
		}
		if v != impl.VdHolds || !holdsBy(s, a) {
			return
		}
		held++
		if out, code := impl.Step(s, c, d.below(6)); code == impl.RsFault || code == impl.RsDone && !someHolds(out, l) {
			t.Fatalf("ExecOne(%s, %q) = %q in %s", asnWord(a), progWord(cmds{c}), wordsOfAll(l), describeState(out))
		}
	})
	if min(over, held, many) < 500 {
		t.Fatalf("%d are over full, %d of them in many cases, %d hold", over, many, held)
	}
}

// In small states all can be asked: of each plain command about a and b.
func TestCommandsInSmallStates(t *testing.T) {
	var states asns
	var small []impl.State
	smallStates(func(s impl.State) { small = append(small, s) })
	for i, a := range smallAsns(t) {
		if i%2 == 0 {
			states = append(states, a)
		}
	}
	var commands cmds
	for _, w := range []string{"a := nil", "a := b", "b := b", "b := a", "a := [a]", "a := [b]", "b := [a]", "[a] := nil", "[a] := a", "[a] := b", "[b] := a", "new a", "new b", "free a", "free b"} {
		commands = append(commands, mustCmd(t, w))
	}
	asked := 0
	for i, a := range states {
		var in []impl.State
		for j, s := range small {
			if (i+j)%3 == 0 && holdsBy(s, a) {
				in = append(in, s)
			}
		}
		for _, c := range commands {
			l, v := impl.ExecOne(a, c)
			for _, s := range in[:min(len(in), 30)] {
				out, code := impl.Step(s, c, 4)
				if v == impl.VdHolds && (code != impl.RsDone || impl.Covers(l, out) < 0) {
					t.Fatalf("ExecOne(%s, %q) = %q, but from %s comes %s, %d", asnWord(a), progWord(cmds{c}), wordsOfAll(l), describeState(s), describeState(out), code)
				}
				if v == impl.VdHolds {
					asked++
				}
			}
		}
	}
	if asked < 10000 {
		t.Fatalf("%d are asked", asked)
	}
}

// A condition that is so in a state is so in what is assumed; and none is assumed where it can't be.
func TestWhatIsAssumedIsSo(t *testing.T) {
	var is, isNot, none, names int
	drawnRoom(t, 9000, func(d *draw, s impl.State, a impl.Asn, held bool) {
		x, y := d.value(), d.value()
		if d.below(3) == 0 {
			x, y = d.below(impl.Terms), d.below(impl.Terms)
		}
		for _, eq := range []bool{true, false} {
			l := checkAssume(t, a, x, y, eq)
			_, ok := impl.Assume(a, x, y, eq)
			if !ok {
				continue
			}
			if len(l) == 0 {
				none++
			}
			so := (s.Terms[x] == s.Terms[y]) == eq
			switch {
			case !held:
			case so && (len(l) != 1 || !impl.Holds(s, l[0])):
				t.Fatalf("Assume(%s, %d, %d, %v) = %q in %s", asnWord(a), x, y, eq, wordsOfAll(l), describeState(s))
			case so:
				is++
			case x > impl.Vars || y > impl.Vars:
				names++
			case someHolds(cloneState(s), l):
				t.Fatalf("Assume(%s, %d, %d, %v) = %q in %s", asnWord(a), x, y, eq, wordsOfAll(l), describeState(s))
			default:
				isNot++
			}
			for _, b := range l {
				if possible, _ := impl.Possible(b); !possible {
					t.Fatalf("Assume(%s, %d, %d, %v) = %q", asnWord(a), x, y, eq, wordsOfAll(l))
				}
			}
		}
	})
	if min(is, isNot, none, names) < 300 {
		t.Fatalf("%d are so, %d are not, %d can't be, %d with names", is, isNot, none, names)
	}
}

// What is put stands behind all others, tidied, or nothing does.
func TestWhatIsPutStandsBehind(t *testing.T) {
	var put, gave int
	drawnNamed(t, 4000, func(d *draw, s impl.State, a impl.Asn, _ bool) {
		l := drawnAsns(d.below(5))
		if d.below(10) == 0 {
			l = many(t, 38+d.below(3))
		}
		checkPut(t, l, a)
		got, ok := impl.Put(l, a)
		tidy, _ := impl.Tidy(a)
		room := len(tidy.Segs)+max(len(tidy.Eqs), len(tidy.Nes)) <= impl.MaxPure
		if ok != (room && len(l) < impl.MaxStates) {
			t.Fatalf("Put(%s) = %v", asnWord(a), ok)
		}
		if !ok {
			gave++
			if !sameAsns(got, l) {
				t.Fatalf("Put(%s) = %q", asnWord(a), wordsOfAll(got))
			}
			return
		}
		put++
		if !sameAsns(got[:len(l)], l) || len(got) != len(l)+1 || !sameAsn(got[len(l)], tidy) {
			t.Fatalf("Put(%s) = %q", asnWord(a), wordsOfAll(got))
		}
	})
	if min(put, gave) < 100 {
		t.Fatalf("%d are put, %d are not", put, gave)
	}
}

// What always follows holds wherever one of some does.
func TestWhatAlwaysFollowsHolds(t *testing.T) {
	var always, not int
	var before impl.Asn
	drawnAsked(t, 9000, func(d *draw, s impl.State, p, q impl.Asn, held bool) {
		l := asns{p}
		switch d.below(4) {
		case 0:
			l = asns{p, before}
		case 1:
			l = asns{d.stronger(p), p}
		case 2:
			l = asns{p, d.stronger(p), p}
		}
		before = p
		is := checkAlways(t, l, q)
		each := !slices.ContainsFunc(l, func(a impl.Asn) bool {
			follows, ok := impl.Entails(a, q)
			return !follows || !ok
		})
		if is != each {
			t.Fatalf("Always(%q, %s) = %v", wordsOfAll(l), asnWord(q), is)
		}
		if !is {
			not++
			return
		}
		if held && !impl.Holds(s, q) {
			t.Fatalf("Always(%q, %s), but not in %s", wordsOfAll(l), asnWord(q), describeState(s))
		}
		always++
	})
	if min(always, not) < 500 {
		t.Fatalf("%d always follow, %d do not", always, not)
	}
}

// stronger has more of Eqs and Nes that may be so.
func (d *draw) stronger(a impl.Asn) impl.Asn {
	l := clonedLists(a)
	for kind := range 2 {
		if len(l[kind])+len(a.Segs) < impl.MaxPure {
			l[kind] = append(l[kind], impl.Pair{A: d.below(impl.Terms), B: d.below(impl.Terms)})
		}
	}
	return asnOf(l)
}

// permuted is a program about other variables.
func permuted(l cmds, to []int) cmds {
	l = cloneProg(l)
	for i, c := range l {
		l[i].X, l[i].Y = to[c.X], to[c.Y]
		l[i].Inv = mapped(c.Inv, func(t int) int { return to[t] })
		l[i].A, l[i].B = permuted(c.A, to), permuted(c.B, to)
	}
	return l
}

func (d *draw) otherVars() []int {
	to := []int{0, 1, 2, 3, 4, 5, 6, 7, 8, 9, 10, 11, 12, 13, 14, 15}
	for i := 1; i <= impl.Vars; i++ {
		j := i + d.below(impl.Vars+1-i)
		to[i], to[j] = to[j], to[i]
	}
	return to
}

// triple is what is ahead, a program, and what is behind.
type triple struct {
	pre  impl.Asn
	prog cmds
	post impl.Asn
}

func (x triple) words() string {
	return asnWord(x.pre) + " | " + progWord(x.prog) + " | " + asnWord(x.post)
}

// changedProg has one command less, more, or another one, anywhere; most often it is right.
func (d *draw) changedProg(l cmds) cmds {
	l = cloneProg(l)
	if len(l) > 0 && d.below(3) > 0 {
		c := &l[d.below(len(l))]
		switch {
		case len(c.A) > 0 && d.below(3) > 0:
			c.A = d.changedProg(c.A)
			return l
		case len(c.B) > 0 && d.below(3) > 0:
			c.B = d.changedProg(c.B)
			return l
		case c.Kind >= impl.CmIf && d.below(2) == 0:
			c.Eq = !c.Eq
			return l
		case c.Kind >= impl.CmIf:
			c.X, c.Y = d.value(), d.value()
			return l
		}
	}
	i := d.below(len(l) + 1)
	switch {
	case d.below(3) == 0 && i < len(l):
		return slices.Delete(l, i, i+1)
	case d.below(2) == 0 && i < len(l) && l[i].Kind < impl.CmIf:
		l[i] = d.plainCmd(d.below(5))
		return l
	}
	return slices.Insert(l, i, d.plainCmd(d.below(5)))
}

// drawnTriples hands out proved ones about other variables, of which some are changed in one place.
func drawnTriples(t *testing.T, n int, do func(d *draw, x triple)) {
	t.Helper()
	d := draw(17)
	for i := range n {
		c := provedTexts[i%len(provedTexts)]
		pre, prog, post := proved(t, c.pre, c.prog, c.post)
		to := d.otherVars()
		put := func(t int) int { return to[t] }
		x := triple{mapped(pre, put), permuted(prog, to), mapped(post, put)}
		switch d.below(6) {
		case 0:
			x.post = d.bentPlain(x.post)
		case 1:
			x.pre = d.bentPlain(x.pre)
		case 2, 3:
			x.prog = d.changedProg(x.prog)
		}
		do(&d, x)
	}
}

// bentPlain is like bent, but has no names.
func (d *draw) bentPlain(a impl.Asn) impl.Asn {
	return mapped(d.bent(a), func(t int) int { return t % (impl.Vars + 1) })
}

// checkProved runs what is verified, from states in which it is begun right.
func checkProved(t *testing.T, d *draw, x triple) int {
	t.Helper()
	s, ok := d.stateOf(x.pre)
	if !ok {
		return 0
	}
	out, code := impl.Run(s, x.prog, d.picks(), 400)
	if code == impl.RsFault {
		t.Fatalf("%s fails from %s", x.words(), describeState(s))
	}
	if code != impl.RsDone {
		return 0
	}
	if !impl.Holds(out, x.post) {
		t.Fatalf("%s: from %s it ends in %s", x.words(), describeState(s), describeState(out))
	}
	return 1
}

// What is verified never fails where it is begun right, and ends right, whatever new addresses are.
func TestWhatIsVerifiedNeverFails(t *testing.T) {
	var verdicts [5]int
	ended := 0
	drawnTriples(t, 15000, func(d *draw, x triple) {
		v := impl.Verify(x.pre, x.prog, x.post)
		if v < 0 {
			return
		}
		verdicts[v]++
		if d.below(10) == 0 {
			checkVerify(t, x.pre, x.prog, x.post)
		}
		if v == impl.VdHolds {
			for range 4 {
				ended += checkProved(t, d, x)
			}
		}
	})
	if min(verdicts[impl.VdHolds], verdicts[impl.VdFault], verdicts[impl.VdPost], verdicts[impl.VdInv]) < 150 || ended < 4000 {
		t.Fatalf("verdicts %v, %d come to an end", verdicts, ended)
	}
}

// In small states all can be asked: with a list of up to three, or two of them, at any addresses.
func TestProvedOnesInSmallStates(t *testing.T) {
	states := statesOfThree()
	ran, ended := 0, 0
	for _, c := range provedTexts {
		pre, prog, post := proved(t, c.pre, c.prog, c.post)
		for _, s := range states {
			if !impl.Holds(s, pre) {
				continue
			}
			ran++
			for _, picks := range [][]int{nil, {5, 1, 3}} {
				out, code := impl.Run(s, prog, picks, 300)
				if code == impl.RsFault || code == impl.RsDone && !impl.Holds(out, post) {
					t.Fatalf("%q, %q, %q: from %s it ends in %s, %d", c.pre, c.prog, c.post, describeState(s), describeState(out), code)
				}
				if code == impl.RsDone {
					ended++
				}
			}
		}
	}
	if ran < 5000 || ended < 8000 {
		t.Fatalf("%d run, %d end", ran, ended)
	}
}

// onward has plain commands, and now and then a branch, that a machine can do to s.
func (d *draw) onward(s impl.State, n int) cmds {
	var l cmds
	for range n {
		c := d.plainCmd(d.below(5))
		if d.below(5) == 0 {
			c = impl.Cmd{Kind: impl.CmIf, X: d.value(), Y: d.value(), Eq: d.below(2) == 0}
			c.A, c.B = d.onward(s, d.below(3)), cmds{d.plainCmd(impl.CmSet)}
			if !guardBy(s, c) {
				c.A, c.B = c.B, c.A
			}
		}
		if got := runBy(s, cmds{c}, nil, 50); got.code == impl.RsDone {
			s, l = got.state, append(l, c)
		}
	}
	return l
}

// drawnKnowledge hands out drawn states, each with some assertions, of which one holds or nearly does, and a program.
func drawnKnowledge(t *testing.T, n int, do func(d *draw, s impl.State, l asns, held bool, prog cmds)) {
	t.Helper()
	drawnRoom(t, n, func(d *draw, s impl.State, a impl.Asn, held bool) {
		l := asns{a}
		if d.below(3) == 0 {
			l = append(l, d.stronger(a))
		}
		if d.below(4) == 0 {
			l = append(asns{mustRead(t, "a!a")}, l...)
		}
		prog := d.onward(s, 1+d.below(6))
		if d.below(8) == 0 {
			prog = d.list(8, 0)
		}
		if d.below(8) == 0 {
			_, more, _ := proved(t, "emp", provedTexts[d.below(len(provedTexts))].prog, "emp")
			prog = slices.Concat(prog, more)
		}
		if !roomBy(l[len(l)-1]) || !progOkBy(prog) {
			return
		}
		do(d, s, l, held, prog)
	})
}

// Each state in which one of some holds, in which a program ends, is told behind it; and it never fails there.
func TestWhatIsKnownBehindIt(t *testing.T) {
	var verdicts [5]int
	var ended, covered int
	drawnKnowledge(t, 10000, func(d *draw, s impl.State, l asns, held bool, prog cmds) {
		out, v := checkExec(t, l, prog)
		verdicts[v]++
		if v != impl.VdHolds || !held {
			return
		}
		end, code := impl.Run(s, prog, d.picks(), 300)
		if code == impl.RsFault {
			t.Fatalf("Exec(%q, %q) = %q, but it fails from %s", wordsOfAll(l), progWord(prog), wordsOfAll(out), describeState(s))
		}
		if code != impl.RsDone {
			return
		}
		ended++
		if !someHolds(end, out) {
			t.Fatalf("Exec(%q, %q) = %q, but from %s it ends in %s", wordsOfAll(l), progWord(prog), wordsOfAll(out), describeState(s), describeState(end))
		}
		if !slices.ContainsFunc(out, func(a impl.Asn) bool { return len(namesThere(a)) > 3 }) {
			covered++
			if checkCovers(t, out, end) < 0 {
				t.Fatalf("Covers(%q, %s)", wordsOfAll(out), describeState(end))
			}
		}
	})
	if min(ended, covered, verdicts[impl.VdHolds], verdicts[impl.VdFault]) < 500 || min(verdicts[impl.VdInv], verdicts[impl.VdGave]) < 100 {
		t.Fatalf("verdicts %v, %d end, %d covered", verdicts, ended, covered)
	}
}

// A program done in two parts is as done at once.
func TestInTwoPartsItIsAsAtOnce(t *testing.T) {
	var parts, fails, first int
	both := func(l asns, prog cmds) {
		t.Helper()
		want, v := impl.Exec(l, prog)
		for i := range len(prog) + 1 {
			middle, w := impl.Exec(l, prog[:i])
			var end asns
			if w == impl.VdHolds {
				end, w = impl.Exec(middle, prog[i:])
			} else {
				first++
			}
			if w != v || !sameAsns(end, want) {
				t.Fatalf("Exec(%q, %q) in two, behind %d: %q, %d, not %q, %d", wordsOfAll(l), progWord(prog), i, wordsOfAll(end), w, wordsOfAll(want), v)
			}
			if seq, ok := impl.Seq(prog[:i], prog[i:]); !ok || len(seq) != len(prog) {
				t.Fatal("no Seq")
			}
			parts++
			if v != impl.VdHolds {
				fails++
			}
		}
	}
	drawnKnowledge(t, 3000, func(_ *draw, _ impl.State, l asns, _ bool, prog cmds) { both(l, prog) })
	drawnTriples(t, 1500, func(_ *draw, x triple) {
		if progOkBy(x.prog) {
			both(asns{x.pre}, x.prog)
			// What is verified in two is, if all between is.
			v := impl.Verify(x.pre, x.prog, x.post)
			for i := range len(x.prog) {
				if middle, w := impl.Exec(asns{x.pre}, x.prog[:i]); w == impl.VdHolds {
					worst := impl.VdHolds
					for _, a := range middle {
						if worst = impl.Verify(a, x.prog[i:], x.post); worst != impl.VdHolds {
							break
						}
					}
					if v == impl.VdHolds && worst != impl.VdHolds {
						t.Fatalf("%s in two, behind %d: %d", x.words(), i, worst)
					}
				}
			}
		}
	})
	if min(parts, fails, first) < 1000 {
		t.Fatalf("%d in two parts, %d fail, %d in the first", parts, fails, first)
	}
}

// An invariant that is held holds behind a turn, if that comes to its end; and no turn fails.
func TestWhatIsHeldHoldsBehindATurn(t *testing.T) {
	var turns, held, not int
	drawnTriples(t, 6000, func(d *draw, x triple) {
		for _, c := range everyBy(x.prog) {
			if c.Kind != impl.CmWhile {
				continue
			}
			v := checkHeld(t, c.Inv, c.X, c.Y, c.Eq, c.A)
			if v != impl.VdHolds {
				not++
				continue
			}
			held++
			for range 4 {
				s, ok := d.stateOf(c.Inv)
				if !ok || !impl.Guard(s, c.Cmd) {
					continue
				}
				out, code := impl.Run(s, c.A, d.picks(), 300)
				if code == impl.RsFault || code == impl.RsDone && !impl.Holds(out, c.Inv) {
					t.Fatalf("Held(%s, %q), but from %s it ends in %s, %d", asnWord(c.Inv), progWord(cmds{c.Cmd}), describeState(s), describeState(out), code)
				}
				if code == impl.RsDone {
					turns++
				}
			}
		}
	})
	if min(turns, held, not) < 200 {
		t.Fatalf("%d turns, %d are held, %d not", turns, held, not)
	}
}

// Each answer is as it is told apart from the program.
func TestExecByAnotherWay(t *testing.T) {
	all, progs := drawnAsns(300), drawnProgs(300)
	for i, a := range all {
		l := asns{a, all[(i*7+3)%len(all)]}
		checkExec(t, l[:i%3], progs[i])
		checkExec(t, nil, progs[i])
		checkVerify(t, a, progs[i], mapped(l[1], func(t int) int { return t % 6 }))
		checkAlways(t, l, l[i%2])
		for _, c := range append(oneOfEach(), wrongCmds()[i]) {
			checkExecOne(t, a, c)
			checkDoCase(t, a, c)
		}
		checkHeld(t, mapped(impl.Asn{Eqs: a.Eqs[:min(len(a.Eqs), 5)], Segs: a.Segs[:min(len(a.Segs), 4)]}, func(t int) int { return t % 6 }), i%7, i%6, i%2 == 0, progs[i])
	}
	drawnRoom(t, 600, func(d *draw, s impl.State, a impl.Asn, _ bool) {
		b := a
		if d.below(3) == 0 {
			b = d.bent(a)
		}
		checkCovers(t, asns{a, b}[d.below(3):], s)
	})
}
