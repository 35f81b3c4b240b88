package tests

import (
	"math"
	"slices"
	"testing"

	"loop.example/g00621/impl"
)

// spareCmd stands behind lists: it would be a right command, and more of them too many.
var spareCmd = impl.Cmd{Kind: impl.CmNew, X: 5}

// progRoom is a program together with all the memory behind it: that of its commands, and that of its invariants.
type progRoom struct {
	prog   cmds
	lists  []cmds
	before []cmds
	pairs  []pairs
	words  []pairs
}

// cmdsIn puts a list into memory of its own, with spare room behind it.
func (r *progRoom) cmdsIn(l cmds) cmds {
	m := append(slices.Clone(l), slices.Repeat(cmds{spareCmd}, 25)...)
	r.lists = append(r.lists, m)
	return m[:len(l)]
}

func (r *progRoom) placed(l cmds, joint bool) cmds {
	l = slices.Clone(l)
	for i, c := range l {
		in := apartRoom(c.Inv)
		if joint {
			in = jointRoom(c.Inv)
		}
		r.pairs = append(r.pairs, in.memory...)
		l[i].Inv = in.asn
		if joint {
			// A stands ahead of B in one memory.
			m := r.cmdsIn(slices.Concat(r.placed(c.A, joint), r.placed(c.B, joint)))
			l[i].A, l[i].B = m[:len(c.A)], m[len(c.A):]
			continue
		}
		l[i].A, l[i].B = r.cmdsIn(r.placed(c.A, joint)), r.cmdsIn(r.placed(c.B, joint))
	}
	return l
}

func progRoomOf(l cmds, joint bool) *progRoom {
	r := &progRoom{}
	r.prog = r.cmdsIn(r.placed(l, joint))
	r.note()
	return r
}

// note keeps what all is: in lists that are in others, too, as these are among the lists.
func (r *progRoom) note() {
	for _, l := range r.lists {
		r.before = append(r.before, slices.Clone(l))
	}
	for _, l := range r.pairs {
		r.words = append(r.words, slices.Clone(l))
	}
}

// sameList tells whether two lists are in the same place, and as long.
func sameList[T any](x, y []T) bool {
	return len(x) == len(y) && cap(x) == cap(y) && (cap(x) == 0 || &x[:cap(x)][0] == &y[:cap(y)][0])
}

// untouchedCmd does not go into what is in it: that has to be the very same lists.
func untouchedCmd(c, d impl.Cmd) bool {
	x, y := listsOf(c.Inv), listsOf(d.Inv)
	for k := range x {
		if !sameList(x[k], y[k]) {
			return false
		}
	}
	return c.Kind == d.Kind && c.X == d.X && c.Y == d.Y && c.Eq == d.Eq && sameList(c.A, d.A) && sameList(c.B, d.B)
}

func (r *progRoom) touched() bool {
	for i, l := range r.lists {
		if !slices.EqualFunc(l, r.before[i], untouchedCmd) {
			return true
		}
	}
	for i, l := range r.pairs {
		if !slices.Equal(l, r.words[i]) {
			return true
		}
	}
	return false
}

// slots knows places in memory that are somebody's.
type slots struct {
	cmds  map[*impl.Cmd]bool
	pairs map[*impl.Pair]bool
}

// claim takes a list to the end of its memory; it tells whether none of that was somebody's.
func claim[T any](taken map[*T]bool, l []T) bool {
	free := true
	for i := range l[:cap(l)] {
		at := &l[:cap(l)][i]
		free = free && !taken[at]
		taken[at] = true
	}
	return free
}

// claimProg takes all lists of a program.
func (s *slots) claimProg(l cmds) bool {
	free := claim(s.cmds, l)
	for _, c := range l {
		for _, m := range listsOf(c.Inv) {
			free = claim(s.pairs, m) && free
		}
		free = s.claimProg(c.A) && free
		free = s.claimProg(c.B) && free
	}
	return free
}

// checkNewProg asks that the arguments are as they were, and that each list of an answer has its memory for itself.
func checkNewProg(t *testing.T, name string, answer cmds, args ...*progRoom) {
	t.Helper()
	if slices.ContainsFunc(args, (*progRoom).touched) {
		t.Fatalf("%s wrote into an argument", name)
	}
	s := slots{map[*impl.Cmd]bool{}, map[*impl.Pair]bool{}}
	if !s.claimProg(answer) {
		t.Fatalf("%s: two lists of one answer share memory", name)
	}
	for _, r := range args {
		for _, l := range r.lists {
			for i := range l {
				if s.cmds[&l[i]] {
					t.Fatalf("%s: the answer shares memory with an argument", name)
				}
			}
		}
		for _, l := range r.pairs {
			for i := range l {
				if s.pairs[&l[i]] {
					t.Fatalf("%s: the answer shares memory with an argument", name)
				}
			}
		}
	}
}

func roomsOfProgs() []*progRoom {
	var out []*progRoom
	for _, l := range append(drawnProgs(80), nil, oneOfEach(), nested(3, cmds{freeA}, wraps[0]), nested(4, cmds{freeA}, wraps[1]), slices.Repeat(cmds{freeA}, 20), slices.Repeat(cmds{freeA}, 21)) {
		out = append(out, progRoomOf(l, false), progRoomOf(l, true))
	}
	for i, l := range wrongProgs() {
		if i%40 == 0 && i > 5 {
			out = append(out, progRoomOf(l, false))
		}
	}
	return append(out, sharingRooms()...)
}

// sharingRooms have one list in many places, though each is a right program.
func sharingRooms() []*progRoom {
	var out []*progRoom
	p := append(pairs{{A: 1, B: 2}, {A: 3, B: 0}, {A: 2, B: 2}}, repeated(mark, 10)...)
	inv := impl.Asn{Eqs: p[:2], Nes: p[:3], Cells: p[:1], Segs: p[1:3]}
	one := append(cmds{freeA, {Kind: impl.CmNew, X: 1}}, slices.Repeat(cmds{spareCmd}, 25)...)
	two := append(cmds{{Kind: impl.CmIf, X: 1, Eq: true, A: one[:2], B: one[:2]}, {Kind: impl.CmWhile, X: 2, Inv: inv, A: one[:1]}}, slices.Repeat(cmds{spareCmd}, 25)...)
	top := append(cmds{{Kind: impl.CmIf, A: two[:1], B: two[1:2]}, {Kind: impl.CmWhile, Inv: inv, A: one[1:2]}, {Kind: impl.CmWhile, Inv: inv, A: one[1:2]}}, slices.Repeat(cmds{spareCmd}, 25)...)
	for _, l := range []cmds{one[:2], two[:2], top[:3], top[:1], one[:0]} {
		r := &progRoom{prog: l, lists: []cmds{one, two, top}, pairs: []pairs{p}}
		r.note()
		out = append(out, r)
	}
	return out
}

func TestProgramsAreNewMemory(t *testing.T) {
	all := roomsOfProgs()
	together := 0
	for i, r := range all {
		for _, s := range []*progRoom{r, all[(i+1)%len(all)], all[(i*5+2)%len(all)], all[len(all)-1]} {
			l, ok := impl.Seq(r.prog, s.prog)
			if ok && len(l) > 0 {
				together++
			}
			checkNewProg(t, "Seq", l, r, s)
			l, _ = impl.Seq(s.prog, r.prog)
			checkNewProg(t, "Seq", l, r, s)
		}
		text := impl.ProgText(r.prog)
		l, ok := impl.ProgRead(text)
		if ok && len(l) > 0 {
			together++
		}
		checkNewProg(t, "ProgText and ProgRead", l, r)
		for _, ints := range [][]int{impl.Changes(r.prog), impl.Mentions(r.prog)} {
			for i := range ints[:cap(ints)] {
				ints[:cap(ints)][i] = 1000
			}
		}
		impl.ProgOk(r.prog)
		impl.Size(r.prog)
		impl.Deep(r.prog)
		impl.Loops(r.prog)
		impl.IsPlain(r.prog)
		for _, c := range r.prog {
			impl.CmdOk(c)
		}
		checkNewProg(t, "the others", nil, r)
	}
	if together < 200 {
		t.Fatalf("%d programs", together)
	}
}

func TestRunsAreNewMemory(t *testing.T) {
	states := append(drawnStates(6), mustState(t, ""), mustState(t, "a=1 1>0"), mustState(t, "a=1 1>1 2>1 3>1 4>1 5>1 6>1"))
	states = append(states, wrongStates()[:3]...)
	for i, r := range roomsOfProgs() {
		for j, s := range states {
			var apart, joint guard
			picks := [][]int{nil, {1}, {1, 2, 3}, {5, -1}}[(i+j)%4]
			l := joint.joint(s.Terms, s.Heap, picks)
			m := [][]int{apart.spare(s.Terms), apart.spare(s.Heap), apart.spare(picks)}
			for _, c := range []struct {
				g *guard
				l [][]int
			}{{&joint, l}, {&apart, m}} {
				in := impl.State{Terms: c.l[0], Heap: c.l[1]}
				for _, fuel := range []int{-1, 0, 1, 5, 100} {
					out, _ := impl.Run(in, r.prog, c.l[2], fuel)
					checkNewState(t, "Run", c.g, out)
				}
				out, _ := impl.Run(in, r.prog, c.l[1], 20) // the heap is the picks
				checkNewState(t, "Run", c.g, out)
				for _, x := range r.prog {
					out, _ = impl.Step(in, x, j)
					checkNewState(t, "Step", c.g, out)
					impl.Guard(in, x)
					checkNewInts(t, "Guard", c.g)
				}
			}
		}
		if r.touched() {
			t.Fatal("a run wrote into its program")
		}
	}
}

// What an answer was is still so when an argument is changed afterwards.
func TestProgramsDoNotFollowArguments(t *testing.T) {
	for _, r := range roomsOfProgs() {
		if !impl.ProgOk(r.prog) {
			continue
		}
		want := progWord(r.prog)
		l, ok := impl.Seq(r.prog, nil)
		m, ok2 := impl.Seq(nil, r.prog)
		text := impl.ProgText(r.prog)
		back, ok3 := impl.ProgRead(text)
		given := string(text)
		for i := range text {
			text[i] = '#'
		}
		for _, list := range r.lists {
			for i := range list {
				list[i] = impl.Cmd{Kind: 99}
			}
		}
		for _, list := range r.pairs {
			for i := range list {
				list[i] = mark
			}
		}
		if !ok || !ok2 || !ok3 || given != want || progWord(l) != want || progWord(m) != want || progWord(back) != want {
			t.Fatalf("an answer changed with its argument: %q", want)
		}
	}
	s := mustState(t, "a=1 b=4 1>2 2>0")
	x, _ := impl.Step(s, mustCmd(t, "a := b"), 0)
	y, _ := impl.Step(s, mustCmd(t, "free e"), 0)
	z, _ := impl.Run(s, mustProg(t, "free a"), nil, 5)
	w, _ := impl.Run(s, nil, nil, 0)
	for _, l := range [][]int{s.Terms, s.Heap} {
		for i := range l {
			l[i] = 5
		}
	}
	for text, out := range map[string]impl.State{"a=4 b=4 1>2 2>0": x, "a=1 b=4 2>0": z} {
		if !sameState(out, mustState(t, text)) {
			t.Errorf("%q is %s now", text, describeState(out))
		}
	}
	for _, out := range []impl.State{y, w} {
		if !sameState(out, mustState(t, "a=1 b=4 1>2 2>0")) {
			t.Errorf("it is %s now", describeState(out))
		}
	}
}

func TestProgReadLeavesItsText(t *testing.T) {
	for _, c := range append(progTexts, struct {
		text string
		l    cmds
	}{"free a }", nil}) {
		m := append([]byte(c.text), " free a } ) { }"...)
		before := string(m)
		l, ok := impl.ProgRead(m[:len(c.text)])
		if string(m) != before {
			t.Fatalf("ProgRead wrote into %q", c.text)
		}
		for i := range m {
			m[i] = '#'
		}
		if ok && progWord(l) != c.text {
			t.Fatalf("ProgRead keeps its text: %q", c.text)
		}
	}
	m := []byte("free a new b")
	if l, ok := impl.ProgRead(m[:6]); !ok || progWord(l) != "free a" {
		t.Error("ProgRead reads behind the length")
	}
	for _, n := range []int{4, 5, 7, 10, 11} {
		if _, ok := impl.ProgRead(m[:n]); ok {
			t.Error("ProgRead reads behind the length")
		}
	}
}

// What is behind a list's length would make it wrong, too many, or another one.
func TestProgramsStopAtTheLength(t *testing.T) {
	bad := slices.Repeat(cmds{{Kind: -1}}, 40)
	in := append(cmds{{Kind: impl.CmNew, X: 2}}, bad...)
	p := pairs{{A: 1, B: 2}, {A: 9, B: 9}, {A: -1, B: 99}}
	top := append(cmds{
		{Kind: impl.CmIf, X: 1, Eq: true, A: in[:1], B: in[:0]},
		{Kind: impl.CmWhile, X: 1, Inv: impl.Asn{Eqs: p[:1], Nes: p[1:1], Cells: p[2:2], Segs: p[:0]}, A: in[1:1], B: in[1:1]},
		{Kind: impl.CmSet, X: 1, Inv: impl.Asn{Eqs: p[2:2]}, A: in[1:1], B: in[1:1]},
	}, bad...)
	l := top[:3]
	if text := string(impl.ProgText(l)); text != "if a = nil { new b } { } while a ! nil ( a=b ) { } a := nil" {
		t.Errorf("ProgText reads behind the length: %q", text)
	}
	if !impl.ProgOk(l) || impl.Size(l) != 4 || impl.Deep(l) != 2 || impl.Loops(l) != 1 || !slices.Equal(impl.Changes(l), []int{1, 2}) || !slices.Equal(impl.Mentions(l), []int{1, 2}) || !impl.IsPlain(top[2:3]) {
		t.Error("something reads behind the length")
	}
	if both, ok := impl.Seq(l, top[2:3]); !ok || impl.Size(both) != 5 || len(both) != 4 || len(both[1].A) != 0 {
		t.Error("Seq reads behind the length")
	}
	picks := []int{3, -1, 5000}
	s := mustState(t, "")
	if out, code := impl.Run(s, top[:1], picks[:1], 9); code != impl.RsDone || !sameState(out, mustState(t, "b=4 4>0")) {
		t.Errorf("Run reads behind the length: %s, %d", describeState(out), code)
	}
	if _, code := impl.Run(s, top[:1], picks[1:1], 9); code != impl.RsDone {
		t.Errorf("Run reads behind the length: %d", code)
	}
}

func TestNoCallOfProgramsPanics(t *testing.T) {
	numbers := []int{0, 1, 5, 1000, 1001, -1, math.MinInt, math.MaxInt}
	states := append(wrongStates()[:20], mustState(t, ""), mustState(t, "a=1 1>1 2>1 3>1 4>1 5>1 6>1"))
	progs := slices.Concat(wrongProgs(), endlessProgs(), drawnProgs(20), []cmds{nil, {}})
	for i, l := range progs {
		impl.ProgRead(impl.ProgText(l))
		impl.Size(l)
		impl.Deep(l)
		impl.Loops(l)
		impl.IsPlain(l)
		impl.Changes(l)
		impl.Mentions(l)
		impl.Seq(l, progs[(i*7+3)%len(progs)])
		s := states[i%len(states)]
		for _, x := range numbers {
			impl.Run(s, l, []int{x}, x)
			impl.Run(s, l, nil, x)
			impl.Run(states[len(states)-1], l, []int{x}, 50)
			for _, c := range l[:min(len(l), 3)] {
				impl.Step(s, c, x)
				impl.Step(states[len(states)-2], c, x)
				impl.Guard(s, c)
				impl.CmdOk(c)
			}
		}
	}
	for c := range 256 {
		for n := range 6 {
			impl.ProgRead(slices.Repeat([]byte{byte(c)}, n))
			impl.ProgRead(append([]byte("if a = b { "), slices.Repeat([]byte{byte(c)}, n)...))
			impl.ProgRead(append([]byte("while a = b ( "), slices.Repeat([]byte{byte(c)}, n)...))
		}
	}
	for _, w := range []string{"if ", "while ", "while a = b ( ", "if a = b { ", "while a = b ( emp ) { ", "{ ", "} ", "( ", ") ", "[", "]", "new ", ":= "} {
		text := []byte{}
		for len(text) < 2000 {
			text = append(text, w...)
			impl.ProgRead(text)
		}
		impl.ProgRead(text[:2000])
	}
}

// No function keeps anything: an answer is the same again, whatever was asked in between, and be it one that failed.
func TestNothingIsKeptOfPrograms(t *testing.T) {
	all, states := drawnProgs(300), drawnStates(300)
	for i, l := range all {
		s, other := states[i], all[(i+37)%len(all)]
		text := string(impl.ProgText(l))
		out, code := impl.Run(s, l, []int{4, 2}, 60)
		changes, mentions := impl.Changes(l), impl.Mentions(l)
		impl.Run(s, other, []int{1}, 7)
		impl.Step(out, spareCmd, 3)
		impl.Seq(other, l)
		impl.ProgRead([]byte("free a free"))
		impl.ProgText(cmds{{}})
		again, same := impl.Run(s, l, []int{4, 2}, 60)
		if string(impl.ProgText(l)) != text || code != same || !sameState(out, again) || !slices.Equal(impl.Changes(l), changes) || !slices.Equal(impl.Mentions(l), mentions) {
			t.Fatalf("an answer about %q is another one", text)
		}
	}
}
