package tests

import (
	"math"
	"slices"
	"testing"

	"loop.example/g00621/impl"
)

// spareAsn stands behind lists of assertions: it is refused wherever it is read.
var spareAsn = impl.Asn{Eqs: pairs{mark}, Nes: pairs{mark}, Cells: pairs{mark}, Segs: pairs{mark}}

// listRoom is a list of assertions together with all the memory behind it, and behind theirs.
type listRoom struct {
	list   asns
	memory asns
	before asns
	rooms  []*room
}

func listRoomOf(l asns, how func(impl.Asn) *room) *listRoom {
	r := &listRoom{}
	for _, a := range l {
		in := how(a)
		r.rooms = append(r.rooms, in)
		r.memory = append(r.memory, in.asn)
	}
	r.memory = append(r.memory, slices.Repeat(asns{spareAsn}, 45)...)
	r.list, r.before = r.memory[:len(l)], slices.Clone(r.memory)
	return r
}

// sameOnes has one assertion so many times, with the very same lists.
func sameOnes(a impl.Asn, n int) *listRoom {
	in := jointRoom(a)
	return listRoomOf(slices.Repeat(asns{a}, n), func(impl.Asn) *room { return in })
}

func (r *listRoom) touched() bool {
	for i, a := range r.memory {
		x, y := listsOf(a), listsOf(r.before[i])
		for k := range x {
			if !sameList(x[k], y[k]) {
				return true
			}
		}
	}
	return slices.ContainsFunc(r.rooms, (*room).touched)
}

// checkNewAsns asks that what is given is as it was, and that each list of an answer has its memory for itself: it writes over all of them.
func checkNewAsns(t *testing.T, name string, answer asns, states *listRoom, prog *progRoom, others ...*room) {
	t.Helper()
	rooms := append(slices.Clone(states.rooms), others...)
	was := asnWords(slices.DeleteFunc(slices.Clone(answer), func(a impl.Asn) bool { return !impl.AsnOk(a) }))
	checkNew(t, name, partsOfAll(answer...), rooms...)
	all := answer[:cap(answer)]
	for i := range all {
		all[i] = impl.Asn{Eqs: pairs{{A: i, B: i}}}
	}
	if states.touched() || prog != nil && prog.touched() {
		t.Fatalf("%s: the answer %q shares memory with an argument, or that was written into", name, was)
	}
}

var noStates = &listRoom{}

func knowledgeRooms(t *testing.T) []*room {
	t.Helper()
	out := caseRooms(t)
	for _, c := range tidyTexts {
		out = append(out, apartRoom(mustRead(t, c.text)), jointRoom(mustRead(t, c.text)))
	}
	for _, c := range exposeTexts {
		out = append(out, apartRoom(mustRead(t, c.open)), jointRoom(mustRead(t, c.open)))
	}
	// Lists that are one: what opens a segment is that segment.
	for _, p := range (pairs{{A: 1, B: 2}, {A: 1, B: 0}}) {
		m := append(repeated(p, 1), mark, mark)
		r := &room{asn: impl.Asn{Nes: m[:1], Segs: m[:1]}, memory: []pairs{m}}
		r.note()
		out = append(out, r)
	}
	return out
}

func TestKnowledgeIsNewMemory(t *testing.T) {
	var tidied, exposed, done, assumed int
	commands := oneOfEach()
	commands = append(commands, mustProg(t, "b := [a] [a] := a free b a := a b := [b]")...)
	for i, r := range knowledgeRooms(t) {
		a, ok := impl.Tidy(r.asn)
		if ok {
			tidied++
		}
		checkNew(t, "Tidy", partsOf(a), r)
		for x := -1; x <= 7; x++ {
			a, _, ok = impl.Expose(r.asn, x)
			if ok {
				exposed++
			}
			checkNew(t, "Expose", partsOf(a), r)
		}
		for _, c := range commands {
			a, v := impl.DoCase(r.asn, c)
			if v == impl.VdHolds {
				done++
			}
			checkNew(t, "DoCase", partsOf(a), r)
			l, _ := impl.ExecOne(r.asn, c)
			checkNewAsns(t, "ExecOne", l, noStates, nil, r)
		}
		for _, eq := range []bool{true, false} {
			for _, x := range []int{0, 1, 6, 16} {
				l, ok := impl.Assume(r.asn, x, 2+i%3, eq)
				if ok && len(l) > 0 {
					assumed++
				}
				checkNewAsns(t, "Assume", l, noStates, nil, r)
			}
		}
	}
	if min(tidied, exposed, done, assumed) < 200 {
		t.Fatalf("%d are tidied, %d exposed, %d done, %d assumed", tidied, exposed, done, assumed)
	}
}

// knowledgeLists have many states and few, right ones and wrong ones, in memory that they share or do not.
func knowledgeLists(t *testing.T) []*listRoom {
	t.Helper()
	var out []*listRoom
	for _, how := range []func(impl.Asn) *room{apartRoom, jointRoom} {
		for _, c := range execTexts {
			out = append(out, listRoomOf(listFrom(t, c.states), how))
		}
		out = append(out, listRoomOf(many(t, 39), how), listRoomOf(many(t, 40), how), listRoomOf(many(t, 41), how))
		out = append(out, listRoomOf(asns{chain(6), wrongAsns()[3]}, how), listRoomOf(asns{wrongAsns()[0]}, how))
	}
	for _, text := range []string{"a!nil a..nil", "a=a _1=b _1!a c>_1", "a>nil"} {
		out = append(out, sameOnes(mustRead(t, text), 1), sameOnes(mustRead(t, text), 3), sameOnes(mustRead(t, text), 40))
	}
	m := append(pairs{{A: 1, B: 2}}, mark, mark)
	in := &room{asn: impl.Asn{Nes: m[:1], Segs: m[:1]}, memory: []pairs{m}}
	in.note()
	return append(out, listRoomOf(slices.Repeat(asns{{}}, 4), func(impl.Asn) *room { return in }))
}

func knowledgeProgs(t *testing.T) []*progRoom {
	t.Helper()
	var out []*progRoom
	for i, c := range execTexts {
		out = append(out, progRoomOf(mustProg(t, c.prog), i%2 == 0))
	}
	for i, c := range provedTexts {
		out = append(out, progRoomOf(mustProg(t, c.prog), i%2 == 0))
	}
	// One list of commands in many places, and an invariant whose lists are one.
	p := append(pairs{{A: 1, B: 0}}, mark, mark)
	body := append(mustProg(t, "c := a"), spareCmd)
	loop := impl.Cmd{Kind: impl.CmWhile, X: 2, Y: 3, Inv: impl.Asn{Nes: p[:1], Segs: p[:1]}, A: body[:1]}
	top := append(cmds{{Kind: impl.CmIf, X: 1, Y: 2, Eq: true, A: body[:1], B: body[:1]}, loop, loop, loop}, spareCmd)
	for _, l := range []cmds{top[:1], top[1:2], top[:3], top[1:4]} {
		r := &progRoom{prog: l, lists: []cmds{body, top}, pairs: []pairs{p}}
		r.note()
		out = append(out, r)
	}
	return append(out, sharingRooms()...)
}

func TestExecIsNewMemory(t *testing.T) {
	progs := knowledgeProgs(t)
	came := 0
	for i, states := range knowledgeLists(t) {
		for j, prog := range progs {
			if (i+j)%5 > 0 && len(prog.prog) > 0 {
				continue
			}
			l, v := impl.Exec(states.list, prog.prog)
			if v == impl.VdHolds && len(l) > 0 {
				came++
			}
			checkNewAsns(t, "Exec", l, states, prog)
			if len(states.list) > 0 {
				post := jointRoom(mustRead(t, "a=nil"))
				impl.Verify(states.list[0], prog.prog, post.asn)
				checkNewAsns(t, "Verify", nil, states, prog, post)
			}
		}
	}
	if came < 200 {
		t.Fatalf("%d came to something", came)
	}
}

func TestPutIsNewMemory(t *testing.T) {
	put, not := 0, 0
	rooms := knowledgeRooms(t)
	for i, states := range knowledgeLists(t) {
		for j, r := range rooms {
			if (i+j)%7 > 0 {
				continue
			}
			l, ok := impl.Put(states.list, r.asn)
			if ok {
				put++
			} else if len(l) > 0 {
				not++
			}
			checkNewAsns(t, "Put", l, states, nil, r)
		}
		// One of them is put to them.
		for _, a := range states.list[:min(len(states.list), 3)] {
			l, _ := impl.Put(states.list, a)
			checkNewAsns(t, "Put", l, states, nil)
		}
	}
	if put < 500 || not < 50 {
		t.Fatalf("%d are put, %d are not", put, not)
	}
}

func TestOthersLeaveTheirArguments(t *testing.T) {
	q := []*room{jointRoom(mustRead(t, "a..nil")), apartRoom(wrongAsns()[2]), apartRoom(mustRead(t, "a>_1 _2.._3"))}
	states := append(drawnStates(5), mustState(t, "a=1 1>0"), wrongStates()[4])
	for i, l := range knowledgeLists(t) {
		for _, r := range q {
			impl.Always(l.list, r.asn)
			checkNewAsns(t, "Always", nil, l, nil, r)
		}
		s := states[i%len(states)]
		var g guard
		m := g.joint(s.Terms, s.Heap)
		impl.Covers(l.list, impl.State{Terms: m[0], Heap: m[1]})
		checkNewInts(t, "Covers", &g)
		checkNewAsns(t, "Covers", nil, l, nil)
	}
	var g guard
	m := g.joint(termsWith(1, 2), heapWith(2, 5))
	if i := impl.Covers(mustReadAll(t, "_1>_2", "a>_1 _1>_2"), impl.State{Terms: m[0], Heap: m[1]}); i != 1 {
		t.Errorf("Covers = %d", i)
	}
	checkNewInts(t, "Covers", &g)
	for _, prog := range knowledgeProgs(t) {
		for _, r := range q {
			impl.Held(r.asn, 1, 0, false, prog.prog)
			checkNewAsns(t, "Held", nil, noStates, prog, r)
		}
	}
}

// What comes of states is told apart: a list of one of them can grow without another one.
func TestStatesShareNoSpareRoom(t *testing.T) {
	a := mustRead(t, "c!d e>nil a..b b..c")
	x, _ := impl.Exec(asns{a, a}, nil)
	y, _ := impl.Exec(asns{a, a}, mustProg(t, "if a = b { } { d := a }"))
	z, _ := impl.Exec(asns{a}, mustProg(t, "d := [e]"))
	u, _ := impl.Put(asns{a, a}, a)
	v, _ := impl.Put(slices.Repeat(asns{a}, 40), a)
	w, _ := impl.Assume(a, 1, 2, false)
	for _, l := range []asns{x, y, z, u, v, w} {
		want := asnWords(l)
		for i := range l {
			for _, m := range partsOf(l[i]) {
				_ = append(m, mark, mark)
			}
		}
		if len(l) == 0 || !slices.Equal(asnWords(l), want) {
			t.Errorf("%q became %q", want, asnWords(l))
		}
	}
}

// What an answer was is still so when an argument is changed afterwards.
func TestKnowledgeDoesNotFollowArguments(t *testing.T) {
	spoil := func(lists ...[]pairs) {
		for _, m := range slices.Concat(lists...) {
			for i := range m {
				m[i] = impl.Pair{A: 9, B: 9}
			}
		}
	}
	for _, r := range knowledgeRooms(t) {
		if !impl.AsnOk(r.asn) {
			continue
		}
		a := asnOf(clonedLists(r.asn))
		load := mustCmd(t, "b := [a]")
		tidy, _ := impl.Tidy(r.asn)
		exposed, _, _ := impl.Expose(r.asn, 1)
		done, _ := impl.DoCase(r.asn, load)
		one, _ := impl.ExecOne(r.asn, load)
		assumed, _ := impl.Assume(r.asn, 1, 2, true)
		same, _ := impl.Exec(asns{r.asn}, nil)
		put, _ := impl.Put(asns{r.asn}, r.asn)
		kept, _ := impl.Put(slices.Repeat(asns{r.asn}, 40), r.asn)
		got := slices.Concat(asns{tidy, exposed, done}, one, assumed, same, put, kept)
		spoil(r.memory)
		wantTidy, _ := tidyBy(a)
		wantExposed, _, _ := exposeBy(a, 1)
		wantDone, _ := doCaseBy(a, load)
		wantOne, _ := execOneBy(a, load)
		wantAssumed, _ := assumeBy(a, 1, 2, true)
		wantSame, _ := execBy(asns{a}, nil)
		wantPut, _ := putBy(asns{a}, a)
		wantKept, _ := putBy(slices.Repeat(asns{a}, 40), a)
		if want := slices.Concat(asns{wantTidy, wantExposed, wantDone}, wantOne, wantAssumed, wantSame, wantPut, wantKept); !sameAsns(got, want) {
			t.Fatalf("an answer about %s changed with its argument", asnWord(a))
		}
	}
	for i, states := range knowledgeLists(t) {
		progs := knowledgeProgs(t)
		prog := progs[(i*5)%len(progs)]
		want, v := execBy(cloneAsns(states.list), cloneProg(prog.prog))
		l, w := impl.Exec(states.list, prog.prog)
		spoil(prog.pairs)
		for _, r := range states.rooms {
			spoil(r.memory)
		}
		for j := range states.memory {
			states.memory[j] = spareAsn
		}
		for _, m := range prog.lists {
			for j := range m {
				m[j] = impl.Cmd{Kind: 99}
			}
		}
		if v != w || !sameAsns(l, want) {
			t.Fatalf("an answer changed with its argument: %q", wordsOfAll(l))
		}
	}
}

func cloneAsns(l asns) asns {
	var out asns
	for _, a := range l {
		out = append(out, asnOf(clonedLists(a)))
	}
	return out
}

// What is behind a list's length would be wrong, too many, or another one.
func TestKnowledgeStopsAtTheLength(t *testing.T) {
	bad := slices.Repeat(asns{spareAsn}, 60)
	l := append(mustReadAll(t, "a>nil", "a!nil a..nil"), bad...)
	q := mustRead(t, "a..nil")
	if got, v := impl.Exec(l[:2], cmds{freeA}); v != impl.VdHolds || len(got) != 2 {
		t.Error("Exec reads behind the length")
	}
	if got, ok := impl.Put(l[:1], q); !ok || len(got) != 2 {
		t.Error("Put reads behind the length")
	}
	if !impl.Always(l[:2], q) || !impl.Always(l[2:2], q) {
		t.Error("Always reads behind the length")
	}
	if i := impl.Covers(l[:1], mustState(t, "a=1 1>0")); i != 0 {
		t.Error("Covers reads behind the length")
	}
	p := append(cmds{freeA}, slices.Repeat(cmds{{Kind: -1}}, 40)...)
	if got, v := impl.Exec(l[:1], p[:1]); v != impl.VdHolds || wordsOfAll(got) != "emp" {
		t.Error("Exec reads behind the length")
	}
	if v := impl.Verify(l[0], p[:1], impl.Asn{}); v != impl.VdHolds {
		t.Error("Verify reads behind the length")
	}
	in := append(cmds{{Kind: impl.CmSet, X: 2}}, slices.Repeat(cmds{{Kind: -1}}, 40)...)
	if v := impl.Held(q, 1, 0, true, in[:1]); v != impl.VdHolds {
		t.Error("Held reads behind the length")
	}
	if v := impl.Held(q, 1, 0, true, in[1:1]); v != impl.VdHolds {
		t.Error("Held reads behind the length")
	}
	m := pairs{{A: 1, B: 6}, {A: 2, B: 6}, {A: 99, B: -1}}
	a := impl.Asn{Eqs: m[:1], Nes: m[1:1], Cells: m[1:2], Segs: m[:0]}
	if got, ok := impl.Tidy(a); !ok || asnWord(got) != "b>a" {
		t.Errorf("Tidy reads behind the length: %s", describe(got))
	}
	if _, _, ok := impl.Expose(impl.Asn{Cells: m[:0], Segs: m[1:1]}, 1); ok {
		t.Error("Expose reads behind the length")
	}
	if _, v := impl.DoCase(impl.Asn{Cells: m[:0], Segs: m[1:1]}, freeA); v != impl.VdFault {
		t.Error("DoCase reads behind the length")
	}
}

func TestNoCallOfKnowledgePanics(t *testing.T) {
	numbers := append([]int{0, 1, 5, 6, 15}, wrongTerms...)
	someAsns := append(wrongAsns()[:40], impl.Asn{}, fullAsn(0), fullAsn(3), fullAsn(6), chain(6), allNames(), mustRead(t, "a!nil nil>nil nil..nil a..nil"), mustRead(t, "a>b b>a"), with(t, full(0), "a!nil a..nil"))
	states := append(wrongStates()[:10], mustState(t, "a=1 b=2 1>2 2>1"))
	progs := slices.Concat(wrongProgs()[:60], endlessProgs(), drawnProgs(20), []cmds{nil, {}, oneOfEach()})
	commands := append(wrongCmds(), oneOfEach()...)
	for i, a := range someAsns {
		impl.Tidy(a)
		for _, x := range numbers {
			impl.Expose(a, x)
			for _, y := range numbers[:8] {
				impl.Assume(a, x, y, i%2 == 0)
				impl.Assume(a, y, x, i%2 == 1)
				impl.Held(a, x, y, true, progs[i%len(progs)])
			}
		}
		for _, c := range commands {
			impl.DoCase(a, c)
			impl.ExecOne(a, c)
		}
		for _, prog := range progs {
			impl.Verify(a, prog, someAsns[(i*7+3)%len(someAsns)])
			impl.Exec(asns{a}, prog)
			impl.Held(a, 1, 2, false, prog)
		}
		for _, n := range []int{0, 1, 2, 40, 41} {
			l := slices.Repeat(asns{a}, n)
			impl.Put(l, someAsns[(i+1)%len(someAsns)])
			impl.Always(l, someAsns[(i+1)%len(someAsns)])
			for _, s := range states {
				impl.Covers(l, s)
			}
		}
	}
	for _, prog := range progs {
		impl.Exec(nil, prog)
		impl.Exec(slices.Repeat(asns{{}}, 40), prog)
		impl.Exec(someAsns, prog)
	}
	impl.Put(nil, impl.Asn{Eqs: pairs{{A: math.MaxInt, B: math.MinInt}}})
	impl.Put(someAsns, impl.Asn{})
}

// No function keeps anything: an answer is the same again, whatever was asked in between, and be it one that failed.
func TestNothingIsKeptOfKnowledge(t *testing.T) {
	drawnKnowledge(t, 500, func(d *draw, s impl.State, l asns, _ bool, prog cmds) {
		out, v := impl.Exec(l, prog)
		tidy, _ := impl.Tidy(l[0])
		i := impl.Covers(l, s)
		w := impl.Verify(l[0], prog, impl.Asn{})
		impl.Exec(asns{wrongAsns()[0]}, prog)
		impl.Put(many(t, 40), l[0])
		impl.DoCase(l[0], freeA)
		impl.Held(impl.Asn{}, 1, 2, true, prog)
		impl.Exec(out, prog)
		again, same := impl.Exec(l, prog)
		tidied, _ := impl.Tidy(l[0])
		if v != same || !sameAsns(out, again) || !sameAsn(tidy, tidied) || i != impl.Covers(l, s) || w != impl.Verify(l[0], prog, impl.Asn{}) {
			t.Fatalf("an answer about %q is another one", progWord(prog))
		}
	})
}
