package tests

import (
	"slices"
	"testing"

	"loop.example/g00621/impl"
)

// What comes to an end, be it RsDone or not, does so with more fuel, too, in the same state; with less there is none.
func TestMoreFuelTheSameComes(t *testing.T) {
	var ended [4]int
	var turns int
	drawnRuns(4000, func(d *draw, s impl.State, l cmds) {
		picks := d.picks()
		got := checkRun(t, s, l, picks, 1000)
		if got.code == impl.RsFuel {
			return
		}
		ended[got.code]++
		if got.turns > 0 {
			turns++
		}
		for _, fuel := range []int{got.spent, got.spent + 1, got.spent + 2, got.spent + d.below(1001-got.spent), 999, 1000} {
			out, code := impl.Run(s, l, picks, min(fuel, 1000))
			if code != got.code || !sameState(out, got.state) {
				t.Fatalf("Run(%s, %q, %v, %d) = %s, %d", describeState(s), progWord(l), picks, fuel, describeState(out), code)
			}
		}
		for fuel := range min(got.spent, 30) {
			if _, code := impl.Run(s, l, picks, fuel); code != impl.RsFuel {
				t.Fatalf("Run(%s, %q, %v, %d) = %d, but it takes %d", describeState(s), progWord(l), picks, fuel, code, got.spent)
			}
		}
	})
	if min(ended[impl.RsDone], ended[impl.RsFault], ended[impl.RsRoom], turns) < 100 {
		t.Fatalf("ended %v, %d with turns", ended, turns)
	}
}

// Where there is no fuel left the state is that of what was done: one more of the fuel goes on from there.
func TestFuelByFuel(t *testing.T) {
	steps := 0
	drawnRuns(1500, func(d *draw, s impl.State, l cmds) {
		before := s
		for fuel := range 40 {
			got := checkRun(t, s, l, []int{3, 1}, fuel)
			if got.code != impl.RsFuel {
				break
			}
			// One command changes one term, or one address, or both (CmNew).
			terms, addrs := 0, 0
			for i, x := range got.state.Terms {
				if x != before.Terms[i] {
					terms++
				}
			}
			for i, x := range got.state.Heap {
				if x != before.Heap[i] {
					addrs++
				}
			}
			if terms > 1 || addrs > 1 || fuel == 0 && terms+addrs > 0 {
				t.Fatalf("Run(%s, %q, %d) = %s", describeState(s), progWord(l), fuel, describeState(got.state))
			}
			if terms+addrs > 0 {
				steps++
			}
			before = got.state
		}
	})
	if steps < 300 {
		t.Fatalf("%d steps", steps)
	}
}

// What no command changes is as it was, however a run ends.
func TestWhatIsNotChangedStays(t *testing.T) {
	var kept, changed int
	drawnRuns(4000, func(d *draw, s impl.State, l cmds) {
		changes := impl.Changes(l)
		for _, fuel := range []int{d.below(20), 1000} {
			out, code := impl.Run(s, l, d.picks(), fuel)
			if code < 0 || !impl.StateOk(out) {
				t.Fatalf("Run(%s, %q) = %s, %d", describeState(s), progWord(l), describeState(out), code)
			}
			for x := range impl.Terms {
				switch {
				case out.Terms[x] == s.Terms[x]:
					kept++
				case !slices.Contains(changes, x):
					t.Fatalf("Run(%s, %q) = %s, but %s is not changed", describeState(s), progWord(l), describeState(out), termWord(x))
				default:
					changed++
				}
			}
			writes := slices.ContainsFunc(everyBy(l), func(c leveled) bool {
				return c.Kind == impl.CmStore || c.Kind == impl.CmNew || c.Kind == impl.CmFree
			})
			if !writes && !slices.Equal(out.Heap, s.Heap) {
				t.Fatalf("Run(%s, %q) = %s", describeState(s), progWord(l), describeState(out))
			}
		}
	})
	if min(kept, changed) < 2000 {
		t.Fatalf("%d are kept, %d changed", kept, changed)
	}
}

// What a program does not mention does not matter: it does the same whatever that is.
func TestWhatIsNotMentionedDoesNotMatter(t *testing.T) {
	others := 0
	drawnRuns(3000, func(d *draw, s impl.State, l cmds) {
		mentions, picks := impl.Mentions(l), d.picks()
		other := cloneState(s)
		for x := 1; x < impl.Terms; x++ {
			if !slices.Contains(mentions, x) {
				other.Terms[x] = d.below(impl.Addrs + 1)
			}
		}
		out, code := impl.Run(s, l, picks, 200)
		same, got := impl.Run(other, l, picks, 200)
		for x := range impl.Terms {
			if !slices.Contains(mentions, x) {
				out.Terms[x] = other.Terms[x]
			}
		}
		if code != got || !sameState(out, same) {
			t.Fatalf("Run(%s, %q) = %s, %d", describeState(other), progWord(l), describeState(same), got)
		}
		if !sameState(s, other) {
			others++
		}
	})
	if others < 1000 {
		t.Fatalf("%d are others", others)
	}
}

// withoutNew has CmSet for CmNew, anywhere.
func withoutNew(l cmds) cmds {
	l = cloneProg(l)
	for i := range l {
		if l[i].Kind == impl.CmNew {
			l[i].Kind = impl.CmSet
		}
		l[i].A, l[i].B = withoutNew(l[i].A), withoutNew(l[i].B)
	}
	return l
}

// A program without CmNew that does not fail does the same beside another heap, which it leaves as it is.
func TestBesideAnotherHeap(t *testing.T) {
	var codes [4]int
	var more, written int
	drawnRuns(12000, func(d *draw, s impl.State, l cmds) {
		l = withoutNew(l)
		// Part of the heap is beside the rest.
		mine, other := cloneState(s), heapWith()
		for _, x := range domainBy(s.Heap) {
			if d.below(4) == 0 {
				mine.Heap[x], other[x] = gone, s.Heap[x]
			}
		}
		fuel := []int{d.below(20), 1000}[d.below(2)]
		out, code := impl.Run(mine, l, nil, fuel)
		codes[code]++
		if code == impl.RsFault {
			return
		}
		both, ok := impl.Union(mine, other)
		if !ok {
			t.Fatal("the heaps are not apart")
		}
		got, same := impl.Run(both, l, nil, fuel)
		want, ok := impl.Union(out, other)
		if !ok || same != code || !sameState(got, want) {
			t.Fatalf("Run(%s, %q, %d) = %s, %d, beside %v %s, %d", describeState(mine), progWord(l), fuel, describeState(out), code, other, describeState(got), same)
		}
		for _, x := range domainBy(other) {
			if got.Heap[x] != other[x] {
				t.Fatalf("Run(%s, %q) does not leave %v", describeState(both), progWord(l), other)
			}
		}
		if len(domainBy(other)) > 0 {
			more++
			if !slices.Equal(out.Heap, mine.Heap) {
				written++
			}
		}
	})
	if min(codes[impl.RsDone], codes[impl.RsFault], codes[impl.RsFuel], more, written) < 200 || codes[impl.RsRoom] > 0 {
		t.Fatalf("codes %v, %d beside another one, %d written", codes, more, written)
	}
}

// Why it has to make nothing new, and not to fail.
func TestWhatIsNotTheSameBesideAHeap(t *testing.T) {
	s, other := mustState(t, "a=1"), heapWith(2)
	both, _ := impl.Union(s, other)
	for _, text := range []string{"new b", "free a", "b := [a]"} {
		out, code := impl.Run(s, mustProg(t, text), nil, 5)
		got, same := impl.Run(both, mustProg(t, text), nil, 5)
		if want, ok := impl.Union(out, other); ok && code == same && sameState(got, want) {
			t.Errorf("%q does the same", text)
		}
	}
}

// rotated begins with the n-th of picks.
func rotated(picks []int, n int) []int {
	if len(picks) == 0 {
		return nil
	}
	n %= len(picks)
	return slices.Concat(picks[n:], picks[:n])
}

// One program behind another one does what both do, if both come to their end; and the first ends both where it does not.
func TestOneBehindAnother(t *testing.T) {
	var done, first, second, news int
	drawnRuns(15000, func(d *draw, s impl.State, a cmds) {
		b := d.list(8, 0)
		l, ok := impl.Seq(a, b)
		if !ok {
			return
		}
		picks := d.picks()
		x := checkRun(t, s, a, picks, 400)
		if x.code != impl.RsDone {
			if x.code != impl.RsFuel {
				first++
				if out, code := impl.Run(s, l, picks, 400); code != x.code || !sameState(out, x.state) {
					t.Fatalf("Run(%s, %q, %v) = %s, %d", describeState(s), progWord(l), picks, describeState(out), code)
				}
			}
			return
		}
		y := checkRun(t, x.state, b, rotated(picks, x.news), 400)
		out, code := impl.Run(s, l, picks, min(x.spent+400, 1000))
		if code != y.code || !sameState(out, y.state) {
			t.Fatalf("Run(%s, %q, %v) = %s, %d, not %s, %d", describeState(s), progWord(l), picks, describeState(out), code, describeState(y.state), y.code)
		}
		if y.code != impl.RsDone {
			second++
			return
		}
		done++
		if y.news > 0 && x.news > 0 {
			news++
		}
		if out, code = impl.Run(s, l, picks, x.spent+y.spent); code != impl.RsDone || !sameState(out, y.state) {
			t.Fatalf("Run(%s, %q, %v) with just %d and %d = %d", describeState(s), progWord(l), picks, x.spent, y.spent, code)
		}
		if x.spent+y.spent > 0 {
			if _, code = impl.Run(s, l, picks, x.spent+y.spent-1); code != impl.RsFuel {
				t.Fatalf("Run(%s, %q, %v) with one less than %d and %d = %d", describeState(s), progWord(l), picks, x.spent, y.spent, code)
			}
		}
	})
	if min(done, first, second) < 500 || news < 40 {
		t.Fatalf("%d do what both do, %d end by the first, %d by the second, %d make something new twice", done, first, second, news)
	}
}

// A branch does what the one does that its guard tells; a loop does what its turns do.
func TestGuardTellsWhatIsDone(t *testing.T) {
	var yes, no int
	drawnRuns(6000, func(d *draw, s impl.State, l cmds) {
		in := d.list(9, 1)
		c := impl.Cmd{Kind: impl.CmIf, X: d.value(), Y: d.value(), Eq: d.below(2) == 0, A: in, B: d.list(9, 1)}
		picks := d.picks()
		part := c.B
		if impl.Guard(s, c) {
			part = c.A
			yes++
		} else {
			no++
		}
		out, code := impl.Run(s, cmds{c}, picks, 301)
		want, same := impl.Run(s, part, picks, 300)
		if code != same || !sameState(out, want) {
			t.Fatalf("Run(%s, %q) = %s, %d", describeState(s), progWord(cmds{c}), describeState(out), code)
		}
		w := impl.Cmd{Kind: impl.CmWhile, X: c.X, Y: c.Y, Eq: c.Eq, Inv: d.inv(), A: in}
		out, code = impl.Run(s, cmds{w}, picks, 301)
		if code == impl.RsDone && impl.Guard(out, w) {
			t.Fatalf("Run(%s, %q) = %s, but there is another turn", describeState(s), progWord(cmds{w}), describeState(out))
		}
		if !impl.Guard(s, w) {
			if code != impl.RsDone || !sameState(out, s) {
				t.Fatalf("Run(%s, %q) = %s, %d without a turn", describeState(s), progWord(cmds{w}), describeState(out), code)
			}
			return
		}
		// One turn, and the loop again.
		turn := checkRun(t, s, in, picks, 299)
		if turn.code != impl.RsDone {
			if code != turn.code || turn.code != impl.RsFuel && !sameState(out, turn.state) {
				t.Fatalf("Run(%s, %q) = %s, %d", describeState(s), progWord(cmds{w}), describeState(out), code)
			}
			return
		}
		// A turn takes one, and so does the loop that is begun again.
		rest, again := impl.Run(turn.state, cmds{w}, rotated(picks, turn.news), 301-1-turn.spent)
		if code != again || !sameState(out, rest) {
			t.Fatalf("Run(%s, %q) = %s, %d, not %s, %d", describeState(s), progWord(cmds{w}), describeState(out), code, describeState(rest), again)
		}
	})
	if min(yes, no) < 500 {
		t.Fatalf("%d guards hold, %d do not", yes, no)
	}
}

// What is plain takes as much fuel as there are, if it comes to its end.
func TestFuelOfPlainPrograms(t *testing.T) {
	done := 0
	drawnRuns(6000, func(d *draw, s impl.State, l cmds) {
		var plain cmds
		for _, c := range everyBy(l) {
			if c.Kind < impl.CmIf {
				plain = append(plain, c.Cmd)
			}
		}
		if !impl.IsPlain(plain) || impl.Loops(plain) != 0 || impl.Deep(plain) != min(len(plain), 1) {
			t.Fatalf("IsPlain(%q)", progWord(plain))
		}
		got := checkRun(t, s, plain, nil, len(plain))
		if got.code == impl.RsFuel {
			t.Fatalf("Run(%s, %q) wants more than %d", describeState(s), progWord(plain), len(plain))
		}
		if got.code == impl.RsDone && len(plain) > 0 {
			done++
			if _, code := impl.Run(s, plain, nil, len(plain)-1); code != impl.RsFuel {
				t.Fatalf("Run(%s, %q) takes less than %d", describeState(s), progWord(plain), len(plain))
			}
		}
	})
	if done < 200 {
		t.Fatalf("%d are done", done)
	}
}
