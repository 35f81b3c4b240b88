package tests

import (
	"slices"
	"testing"

	"loop.example/g00621/impl"
)

// wantedProgs are plain ones, and some that are not, each with all the memory behind it.
func wantedProgs(t *testing.T) []*progRoom {
	t.Helper()
	out := knowledgeProgs(t)
	for i, c := range missingTexts {
		out = append(out, progRoomOf(mustProg(t, c.prog), i%2 == 0))
	}
	for i, c := range inferTexts {
		out = append(out, progRoomOf(mustProg(t, c.prog), i%2 == 0))
	}
	for i, l := range wrongProgs() {
		if i%60 == 0 && i > 5 {
			out = append(out, progRoomOf(l, false))
		}
	}
	return out
}

// checkLeft asks that what is given is as it was.
func checkLeft(t *testing.T, name string, prog *progRoom, others ...*room) {
	t.Helper()
	if prog.touched() || slices.ContainsFunc(others, (*room).touched) {
		t.Fatalf("%s wrote into an argument", name)
	}
}

func TestWhatIsWantedIsNewMemory(t *testing.T) {
	missing, inferred := 0, 0
	for _, prog := range wantedProgs(t) {
		a, ok := impl.Missing(prog.prog)
		if ok && len(a.Cells) > 0 {
			missing++
		}
		checkLeft(t, "Missing", prog)
		checkNew(t, "Missing", partsOf(a))
		pre, states, v := impl.Infer(prog.prog)
		if v == impl.VdHolds && len(pre.Cells) > 0 {
			inferred++
		}
		checkLeft(t, "Infer", prog)
		checkNew(t, "Infer", partsOfAll(append(asns{pre}, states...)...))
		checkLeft(t, "Infer, written into what it answered,", prog)
	}
	if min(missing, inferred) < 50 {
		t.Fatalf("%d are missing, %d inferred", missing, inferred)
	}
}

// threeIn has three assertions in one memory, each list with the others as its spare room, and each assertion with those behind it.
func threeIn(x, y, z impl.Asn) (*room, [3]impl.Asn) {
	var m pairs
	for _, a := range []impl.Asn{x, y, z} {
		m = slices.Concat(m, a.Eqs, a.Nes, a.Cells, a.Segs)
	}
	m = append(m, repeated(mark, 40)...)
	from := 0
	var out [3]impl.Asn
	for i, a := range []impl.Asn{x, y, z} {
		var l [kinds]pairs
		for k, p := range listsOf(a) {
			l[k] = m[from : from+len(p)]
			from += len(p)
		}
		out[i] = asnOf(l)
	}
	r := &room{memory: []pairs{m}}
	r.note()
	return r, out
}

func TestWantedOthersLeaveTheirArguments(t *testing.T) {
	held, placed := 0, 0
	for i, c := range framedTexts {
		pre, l, post := proved(t, c.pre, c.prog, c.post)
		extra := anyOrder(t, c.extra)
		prog := progRoomOf(l, i%2 == 0)
		r, three := threeIn(pre, post, extra)
		if v := impl.Framed(three[0], prog.prog, three[1], three[2]); v != c.want {
			t.Errorf("Framed(%q, %q, %q, %q) = %d in one memory", c.pre, c.prog, c.post, c.extra, v)
		}
		checkLeft(t, "Framed", prog, r)
		r, three = threeIn(extra, post, pre)
		if v := impl.Framed(three[2], prog.prog, three[1], three[0]); v != c.want {
			t.Errorf("Framed(%q, %q, %q, %q) = %d in one memory", c.pre, c.prog, c.post, c.extra, v)
		}
		checkLeft(t, "Framed", prog, r)
		// One assertion in all three places.
		same := jointRoom(extra)
		impl.Framed(same.asn, prog.prog, same.asn, same.asn)
		checkLeft(t, "Framed", prog, same)
	}
	for i, c := range needlessTexts {
		prog := progRoomOf(mustProg(t, c.prog), i%2 == 0)
		for _, how := range []func(impl.Asn) *room{apartRoom, jointRoom} {
			r := how(anyOrder(t, c.pre))
			if x := impl.Needless(r.asn, prog.prog); x != c.want {
				t.Errorf("Needless(%q, %q) = %d", c.pre, c.prog, x)
			}
			checkLeft(t, "Needless", prog, r)
		}
	}
	progs := wantedProgs(t)
	for i, r := range knowledgeRooms(t) {
		for j, prog := range progs {
			if (i+j)%23 > 0 {
				continue
			}
			if impl.Needless(r.asn, prog.prog) >= 0 {
				placed++
			}
			checkLeft(t, "Needless", prog, r)
			if impl.Framed(r.asn, prog.prog, impl.Asn{Cells: r.asn.Cells}, impl.Asn{Nes: r.asn.Nes}) >= 0 {
				held++
			}
			checkLeft(t, "Framed", prog, r)
		}
	}
	if min(held, placed) < 50 {
		t.Fatalf("%d have a verdict, %d a place", held, placed)
	}
}

// What comes of what is inferred is told apart from it: a list of one can grow without another one.
func TestInferSharesNoSpareRoom(t *testing.T) {
	for _, c := range inferTexts {
		pre, states, _ := impl.Infer(mustProg(t, c.prog))
		all := append(asns{pre}, states...)
		want := asnWords(all)
		for _, a := range all {
			for _, m := range partsOf(a) {
				_ = append(m, mark, mark)
			}
		}
		if got := asnWords(append(asns{pre}, states...)); !slices.Equal(got, want) {
			t.Errorf("%q became %q", want, got)
		}
	}
}

// What an answer was is still so when a program is changed afterwards, and when another answer is written over.
func TestWhatIsWantedDoesNotFollowOthers(t *testing.T) {
	for _, prog := range wantedProgs(t) {
		l := cloneProg(prog.prog)
		a, ok := impl.Missing(prog.prog)
		pre, states, v := impl.Infer(prog.prog)
		other, more, _ := impl.Infer(prog.prog)
		for _, b := range append(asns{other}, more...) {
			for _, m := range partsOf(b) {
				all := m[:cap(m)]
				for i := range all {
					all[i] = mark
				}
			}
		}
		for i := range more {
			more[i] = spareAsn
		}
		for _, m := range prog.lists {
			for i := range m {
				m[i] = impl.Cmd{Kind: 99}
			}
		}
		wantA, can := missingBy(t, l)
		wantPre, wantStates, w := inferBy(t, l)
		if ok != can || v != w || !sameAsn(a, wantA) || !sameAsn(pre, wantPre) || !sameAsns(states, wantStates) {
			t.Fatalf("an answer about %s changed", describeProg(l))
		}
	}
}

// What is behind a list's length would be wrong, too many, or another one.
func TestWhatIsWantedStopsAtTheLength(t *testing.T) {
	p := append(cmds{freeA}, slices.Repeat(cmds{{Kind: -1}}, 40)...)
	if a, ok := impl.Missing(p[:1]); !ok || asnWord(a) != "a>_1" {
		t.Errorf("Missing reads behind the length: %s", describe(a))
	}
	if a, ok := impl.Missing(p[1:1]); !ok || !isZero(a) {
		t.Errorf("Missing reads behind the length: %s", describe(a))
	}
	if pre, states, v := impl.Infer(p[:1]); v != impl.VdHolds || asnWord(pre) != "a>_1" || wordsOfAll(states) != "emp" {
		t.Errorf("Infer reads behind the length: %s, %d", describe(pre), v)
	}
	c := impl.Cmd{Kind: impl.CmFree, X: 1, A: p[1:1], B: p[2:2], Inv: impl.Asn{Eqs: pairs{{A: 99}}[:0]}}
	if a, ok := impl.Missing(cmds{c}); !ok || asnWord(a) != "a>_1" {
		t.Errorf("Missing reads behind the length: %s", describe(a))
	}
	m := pairs{{A: 2, B: 0}, {A: 1, B: 0}, {A: 3, B: 3}, {A: 99, B: -1}}
	a := impl.Asn{Eqs: m[:0], Nes: m[3:3], Cells: m[:2], Segs: m[2:3]}
	if i := impl.Needless(a, p[:1]); i != 0 {
		t.Errorf("Needless reads behind the length: %d", i)
	}
	if i := impl.Needless(impl.Asn{Eqs: m[:0], Cells: m[1:2]}, p[:1]); i != -1 {
		t.Errorf("Needless reads behind the length: %d", i)
	}
	one, none := impl.Asn{Eqs: m[3:3], Cells: m[1:2]}, impl.Asn{Nes: m[:0], Segs: m[3:3]}
	if v := impl.Framed(one, p[:1], none, impl.Asn{Eqs: m[:1], Cells: m[:1], Nes: m[3:3]}); v != impl.VdHolds {
		t.Errorf("Framed reads behind the length: %d", v)
	}
	if v := impl.Framed(one, p[:1], none, none); v != impl.VdHolds {
		t.Errorf("Framed reads behind the length: %d", v)
	}
}

func TestNoCallOfWhatIsWantedPanics(t *testing.T) {
	someAsns := append(wrongAsns()[:40], impl.Asn{}, fullAsn(0), fullAsn(3), fullAsn(6), chain(6), allNames(), mustRead(t, "a!nil nil>nil nil..nil a..nil"), mustRead(t, "a>b b>a"), with(t, full(0), "a!nil a..nil"))
	progs := slices.Concat(wrongProgs()[:60], endlessProgs(), drawnProgs(20), []cmds{nil, {}, oneOfEach(), oneOfEach()[:5]})
	for _, l := range progs {
		impl.Missing(l)
		impl.Infer(l)
	}
	for _, c := range wrongCmds() {
		impl.Missing(cmds{c})
		impl.Infer(cmds{freeA, c})
	}
	for i, a := range someAsns {
		for j, l := range progs {
			impl.Needless(a, l)
			b, c := someAsns[(i*7+j)%len(someAsns)], someAsns[(i+j*5)%len(someAsns)]
			impl.Framed(a, l, b, c)
			impl.Framed(b, l, c, a)
			impl.Framed(impl.Asn{}, l, impl.Asn{}, a)
		}
	}
}

// No function keeps anything: an answer is the same again, whatever was asked in between, and be it one that failed.
func TestNothingIsKeptOfWhatIsWanted(t *testing.T) {
	last := cmds{freeA}
	drawnWants(800, func(d *draw, l cmds) {
		a, ok := impl.Missing(l)
		pre, states, v := impl.Infer(l)
		more := d.beside(a, 2)
		i := impl.Needless(more, l)
		w := impl.Framed(a, l, impl.Asn{}, impl.Asn{})
		impl.Missing(last)
		impl.Infer(append(slices.Clone(last), freeA, freeA))
		impl.Missing(append(slices.Clone(l), impl.Cmd{Kind: 9}))
		impl.Needless(wrongAsns()[0], l)
		impl.Framed(more, last, a, more)
		last = l
		again, can := impl.Missing(l)
		same, come, x := impl.Infer(l)
		if ok != can || v != x || !sameAsn(a, again) || !sameAsn(pre, same) || !sameAsns(states, come) || i != impl.Needless(more, l) || w != impl.Framed(a, l, impl.Asn{}, impl.Asn{}) {
			t.Fatalf("an answer about %q is another one", progWord(l))
		}
	})
}
