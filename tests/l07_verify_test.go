package tests

import (
	"slices"
	"strings"
	"testing"

	"loop.example/g00621/impl"
)

// provedTexts are verified: what is ahead, a program, what is behind.
var provedTexts = []struct{ pre, prog, post string }{
	{"emp", "", "emp"},
	{"a=b a>c", "", "b>c"},
	{"a..b b..nil", "", "a..nil"},
	{"a>b c>d", "e := [a] b := [c] [a] := b [c] := e", "a>b c>e b=d"},
	{"a>a", "free a", "emp"},
	{"a..nil", "new b [b] := a a := b", "a..nil"},
	{"emp", "new a new b [a] := b", "a..nil"},
	{"a>b b>a", "[a] := nil [b] := a", "b..nil"},
	{"a!b a..b b>nil", "c := [a] [a] := b", "a>b b>nil c..b"},
	{"a!nil a..nil", "b := [a] free a", "b..nil"},
	{"a!nil a..nil", "a := a b := [a]", "a>b b..nil"},
	{"a>b b!nil b..nil", "c := [b] [a] := c free b", "a..nil"},
	{"a>b", "b := [a] b := [a] a := a", "a>b"},
	// Branches.
	{"a..nil", "if a = nil { new a } { b := [a] free a a := b }", "a..nil"},
	{"a..nil", "if a ! nil { b := [a] if b ! nil { c := [b] [a] := c free b } { } } { }", "a..nil"},
	{"a..b", "if a = b { } { c := [a] free a a := c }", "a..b"},
	{"a>nil b>nil", "if a = b { free c } { free a free b }", "emp"},
	{"emp", "if a = b { c := a } { c := b }", "c=b"},
	{"emp", "if a = b { } { if c = a { } { c := a } }", "emp"},
	{"a..nil b..nil", "if a = nil { a := b b := nil } { }", "a..nil b..nil"},
	// Loops: a list is gone over, goes, is turned round, is made again, grows at its end, is gone over to an end.
	{"a..nil", "b := a while b ! nil ( a..b b..nil ) { b := [b] }", "b=nil a..nil"},
	{"a..nil", "while a ! nil ( a..nil ) { b := [a] free a a := b }", "a=nil"},
	{"a..nil", "b := nil while a ! nil ( a..nil b..nil ) { c := [a] [a] := b b := a a := c }", "a=nil b..nil"},
	{"a..nil", "b := nil while a ! nil ( a..nil b..nil ) { c := [a] free a a := c new c [c] := b b := c }", "a=nil b..nil"},
	{"a..nil", "if a = nil { new a } { c := a d := [c] while d ! nil ( c>d a..c d..nil ) { c := d d := [c] } new d [c] := d }", "a..nil"},
	{"a..b b..nil", "while a ! b ( a..b b..nil ) { c := [a] free a a := c }", "a=b a..nil"},
	{"a>nil", "b := [a] while b ! nil ( a..nil ) { b := nil }", "b=nil a..nil"},
	{"a..nil", "while a ! nil ( a..nil ) { b := [a] free a if b = nil { a := nil } { a := b } }", "a=nil"},
	{"a..nil", "while a ! nil ( a..nil ) { b := [a] if b = nil { free a a := nil } { c := [b] [a] := c free b } }", "emp"},
	{"a..nil b..nil", "while a ! nil ( a..nil b..nil ) { c := [a] free a a := c while b ! nil ( a..nil b..nil ) { c := [b] free b b := c } }", "a=nil b..nil"},
	{"a..nil b..nil", "while a ! nil ( a..nil b..nil ) { c := [a] free a a := b b := c }", "a=nil b..nil"},
	{"a..nil", "while a = nil ( a..nil ) { new b [b] := a a := b }", "a!nil a..nil"},
	{"a..nil", "while b = c ( a..nil ) { new d [d] := a a := d if a = e { b := nil } { } }", "b!c a..nil"},
	// Without an end, or without a beginning: what is told is never asked.
	{"emp", "while nil = nil ( emp ) { }", "a!a"},
	{"a..nil", "while nil = nil ( a..nil ) { new b [b] := a a := b }", "b>c c>d"},
	{"a>nil a>nil", "free b", "a!a"},
	{"a!a", "while a ! nil ( a=b b!c ) { new d free d }", "a=nil a=b"},
}

// proved reads one of them; its words may be in any order.
func proved(t *testing.T, pre, prog, post string) (impl.Asn, cmds, impl.Asn) {
	t.Helper()
	return anyOrder(t, pre), mustProg(t, prog), anyOrder(t, post)
}

func anyOrder(t *testing.T, text string) impl.Asn {
	t.Helper()
	var a impl.Asn
	for _, w := range strings.Fields(text) {
		a = with(t, a, w)
	}
	return a
}

func TestVerifyProvedOnes(t *testing.T) {
	for _, c := range provedTexts {
		pre, prog, post := proved(t, c.pre, c.prog, c.post)
		if v := checkVerify(t, pre, prog, post); v != impl.VdHolds {
			t.Errorf("Verify(%q, %q, %q) = %d", c.pre, c.prog, c.post, v)
		}
	}
}

func TestVerifyKnownOnes(t *testing.T) {
	dispose := "while a ! nil ( a..nil ) { b := [a] free a a := b }"
	for _, c := range []struct {
		pre, prog, post string
		want            int
	}{
		// VdPost: one of what comes of it does not entail what is behind; a piece is left, or is not there.
		{"emp", "", "a=b", impl.VdPost},
		{"a>nil", "", "emp", impl.VdPost},
		{"a>nil", "", "a>nil b>nil", impl.VdPost},
		{"a>nil", "free a", "a>nil", impl.VdPost},
		{"a..nil", dispose, "a=nil b=nil", impl.VdPost},
		{"a..nil", dispose, "a>nil", impl.VdPost},
		{"a..nil", "if a = nil { } { }", "a=nil", impl.VdPost},
		{"a..nil", "if a = nil { } { }", "a!nil a..nil", impl.VdPost},
		{"a..nil", "b := a", "a=b b!nil a..nil", impl.VdPost}, // the first of two alone does not
		{"a..nil", "b := a", "a=b b=nil", impl.VdPost},        // the last alone
		{"emp", "new a", "emp", impl.VdPost},
		{"emp", "while nil ! nil ( emp ) { }", "a=b", impl.VdPost},
		{times(12, "nil=nil"), "a := nil", "a=nil", impl.VdHolds}, // it is tidied ahead of there being room
		{times(12, "nil=nil"), "a := nil", "a=b", impl.VdPost},
		{times(12, "a=b") + " b>c", "d := [a] free a", "d=c b=a", impl.VdHolds},
		// VdFault.
		{"emp", "free a", "emp", impl.VdFault},
		{"a..nil", "free a", "emp", impl.VdFault},
		{"a..nil", "b := [a]", "a..nil", impl.VdFault},
		{"a>nil", "free a free a", "a!a", impl.VdFault},
		{"a..b", "if a = b { } { c := [b] }", "emp", impl.VdFault},
		{"a..nil", dispose + " free a", "emp", impl.VdFault},
		// VdInv.
		{"a..b", dispose, "a=nil", impl.VdInv},
		{"a..nil", "while a ! nil ( a..nil ) { a := [a] }", "a=nil", impl.VdInv},
		{"a..nil", "while a ! nil ( emp ) { }", "emp", impl.VdInv},
		// VdGave.
		{"emp", "new a new a new a new a new a new a new a", "emp", impl.VdGave},
		{"a>nil b>nil c>nil d>nil e>nil a..nil", "if a = b { } { a := nil new a }", "emp", impl.VdHolds}, // there is no case
		{"a>nil b>nil c>nil d>nil e..nil", "new e", "emp", impl.VdPost},
		{"a>nil b>nil c>nil d>nil e..nil", "new e new e", "emp", impl.VdGave},
	} {
		pre, prog, post := proved(t, c.pre, c.prog, c.post)
		if v := checkVerify(t, pre, prog, post); v != c.want {
			t.Errorf("Verify(%q, %q, %q) = %d, not %d", c.pre, c.prog, c.post, v, c.want)
		}
	}
}

// Names may be in what is ahead, but not in what is behind.
func TestVerifyAsksItsArguments(t *testing.T) {
	for _, c := range []struct {
		pre, prog, post string
		want            int
	}{
		{"_1>b", "", "emp", impl.VdPost},
		{"_1>b _1=a", "", "a>b", impl.VdHolds},
		{"a>_1 _1..nil", "a := [a]", "emp", impl.VdPost},
		{"a>_1 _1..nil", "b := [a] free a a := b", "a..nil", impl.VdHolds},
		{"_1>b _1=a", "", "_1>b", -1},
		{"emp", "", "_1=_1", -1},
		{"emp", "free a", "_1=a", -1}, // ahead of the fault
		{"a!a", "", "_10!b", -1},
	} {
		pre, prog, post := proved(t, c.pre, c.prog, c.post)
		if v := checkVerify(t, pre, prog, post); v != c.want {
			t.Errorf("Verify(%q, %q, %q) = %d, not %d", c.pre, c.prog, c.post, v, c.want)
		}
	}
	good := mustRead(t, "a>nil")
	for _, bad := range wrongAsns() {
		for _, prog := range []cmds{nil, {freeA}, mustProg(t, "while a = b ( emp ) { }")} {
			if v := impl.Verify(good, prog, bad); v != -1 {
				t.Errorf("Verify(%s behind) = %d", describe(bad), v)
			}
			if v := impl.Verify(bad, prog, good); v != -1 {
				t.Errorf("Verify(%s ahead) = %d", describe(bad), v)
			}
		}
	}
	for _, l := range slices.Concat(wrongProgs(), endlessProgs()) {
		if v := impl.Verify(good, l, good); v != -1 {
			t.Errorf("Verify of a wrong program = %d", v)
		}
	}
	// What is behind needs no room.
	full := impl.Asn{Eqs: repeated(impl.Pair{A: 1, B: 1}, impl.MaxPure), Segs: pairs{{A: 1, B: 0}}}
	if v := checkVerify(t, good, nil, full); v != impl.VdHolds {
		t.Errorf("Verify(%s behind) = %d", asnWord(full), v)
	}
	if v := checkVerify(t, full, nil, full); v != -1 {
		t.Errorf("Verify(%s ahead) = %d", asnWord(full), v)
	}
}

func TestHeldKnownOnes(t *testing.T) {
	for _, c := range []struct {
		inv  string
		x, y int
		eq   bool
		body string
		want int
	}{
		{"emp", 1, 2, true, "", impl.VdHolds},
		{"a..nil", 1, 0, false, "b := [a] free a a := b", impl.VdHolds},
		{"a..nil b..nil", 1, 0, false, "c := [a] [a] := b b := a a := c", impl.VdHolds},
		{"a..nil", 1, 0, true, "b := [a] free a a := b", impl.VdFault},
		{"a..nil", 1, 0, true, "", impl.VdHolds},
		{"a..nil", 1, 0, false, "free a", impl.VdInv},
		{"a..nil", 1, 0, false, "free a free a", impl.VdFault},
		{"a..nil", 1, 0, false, "a := [a]", impl.VdInv},
		{"a>nil b>nil c>nil", 1, 0, false, "new d new d new d new d", impl.VdGave},
		{"a>nil b>nil c>nil", 1, 0, true, "new d new d new d new d", impl.VdHolds}, // there is no turn
		{"a>nil b>nil c>nil", 1, 2, true, "free e", impl.VdHolds},
		{"a!a", 0, 0, true, "free e", impl.VdHolds},
		{"emp", 0, 0, true, "free e", impl.VdFault},
		{"emp", 0, 0, true, "new e free e", impl.VdHolds},
		{"emp", 0, 0, true, "new e", impl.VdInv},
		{"a=b", 1, 2, false, "free e", impl.VdHolds},
		{"b!a a=c c..nil", 2, 0, true, "if a = nil { } { a := [a] c := a }", impl.VdInv},
		{"b=nil a=c c..nil", 1, 2, false, "a := [a] free c c := a", impl.VdHolds},
		{"emp", 1, 2, true, "while a ! b ( emp ) { }", impl.VdHolds},
		{"a..nil", 1, 0, false, "while a ! nil ( a..nil ) { b := [a] free a a := b } while a = nil ( a=nil ) { }", impl.VdHolds},
		{"a..nil", 1, 0, false, "while b ! nil ( a!nil a..nil ) { b := [a] }", impl.VdHolds},
		{"a..nil", 1, 0, false, "while b ! nil ( a>nil ) { b := [a] }", impl.VdInv},
		// It is no right command.
		{"_1=a", 1, 2, true, "", -1},
		{"a=b a=b a=b a=b a=b", 1, 2, true, "", -1},
		{"a>b a>b a..b a..b", 1, 2, true, "", -1},
		{"emp", 6, 2, true, "", -1},
		{"emp", 1, 6, true, "", -1},
		{"emp", -1, 2, true, "", -1},
		{"emp", 1, 16, false, "", -1},
	} {
		v := checkHeld(t, anyOrder(t, c.inv), c.x, c.y, c.eq, mustProg(t, c.body))
		if v != c.want {
			t.Errorf("Held(%q, %d, %d, %v, %q) = %d, not %d", c.inv, c.x, c.y, c.eq, c.body, v, c.want)
		}
	}
}

func TestHeldRefuses(t *testing.T) {
	for _, bad := range wrongInvs() {
		if v := impl.Held(bad, 1, 2, true, nil); v != -1 {
			t.Errorf("Held(%s) = %d", describe(bad), v)
		}
	}
	for _, x := range append([]int{impl.Vars + 1, impl.Terms - 1}, wrongTerms...) {
		for _, eq := range []bool{true, false} {
			if v, w := impl.Held(impl.Asn{}, x, 1, eq, nil), impl.Held(impl.Asn{}, 1, x, eq, nil); v != -1 || w != -1 {
				t.Errorf("Held of %d = %d, %d", x, v, w)
			}
		}
	}
	for _, l := range slices.Concat(wrongProgs(), endlessProgs()) {
		if v := impl.Held(impl.Asn{}, 1, 2, true, l); v != -1 {
			t.Errorf("Held of a wrong program = %d", v)
		}
	}
	// The body is one deeper, and the loop is one more.
	skip := mustCmd(t, "b := a")
	for _, c := range []struct {
		body cmds
		want int
	}{
		{slices.Repeat(cmds{skip}, 19), impl.VdHolds},
		{slices.Repeat(cmds{skip}, 20), -1},
		{nested(2, cmds{skip}, wraps[0]), impl.VdHolds},
		{nested(3, cmds{skip}, wraps[0]), -1},
		{nested(3, nil, wraps[0]), impl.VdHolds},
		{nested(4, nil, wraps[0]), -1},
	} {
		if v := checkHeld(t, impl.Asn{}, 1, 2, true, c.body); v != c.want {
			t.Errorf("Held(%s) = %d, not %d", progWord(c.body), v, c.want)
		}
	}
}

func TestAlwaysKnownOnes(t *testing.T) {
	for _, c := range []struct {
		states, q string
		want      bool
	}{
		{"", "emp", true},
		{"", "a!a", true},
		{"", "a>b b>c", true},
		{"emp", "emp", true},
		{"emp", "a=b", false},
		{"a>nil", "emp", false}, // a piece is left
		{"a>nil; a!nil a..nil", "a..nil", true},
		{"a>nil; a!nil a..nil; b..nil", "a..nil", false},
		{"b..nil; a>nil; a!nil a..nil", "a..nil", false},
		{"a>nil; b..nil; a!nil a..nil", "a..nil", false},
		{"a!a; a=b", "b=a", true},
		{"a!a; b>c b>d", "d>e", true},
		{"_1>a", "_1>a", true},
		{"_1>a", "_2>a", false},
	} {
		if is := checkAlways(t, listFrom(t, c.states), anyOrder(t, c.q)); is != c.want {
			t.Errorf("Always(%q, %q) = %v", c.states, c.q, is)
		}
	}
}

// Just MaxStates, and one more; one for which there is no room; one that is not AsnOk.
func TestAlwaysAsksItsArguments(t *testing.T) {
	p, q := mustRead(t, "a=b a>nil"), mustRead(t, "b..nil")
	for _, n := range []int{0, 1, 39, 40, 41, 80, 5000} {
		if is := impl.Always(slices.Repeat(asns{p}, n), q); is != (n <= 40) {
			t.Errorf("Always of %d = %v", n, is)
		}
		for i := 0; i < min(n, 40); i += 13 {
			l := slices.Repeat(asns{p}, n)
			l[i] = impl.Asn{}
			if impl.Always(l, q) {
				t.Errorf("Always of %d without %d", n, i)
			}
		}
	}
	room, without := noRoom(t, "a!nil a..nil")
	if !impl.Always(asns{room, room}, mustRead(t, "a..nil")) {
		t.Error("Always where there is just room")
	}
	for _, bad := range append(without, wrongAsns()...) {
		for _, l := range []asns{{bad}, {bad, room}, {room, bad}} {
			if checkAlways(t, l, mustRead(t, "a..nil")) {
				t.Errorf("Always(%s)", describe(bad))
			}
		}
	}
	for _, bad := range wrongAsns() {
		for _, l := range []asns{nil, {}, {room}, {mustRead(t, "a!a")}, {bad}} {
			if impl.Always(l, bad) {
				t.Errorf("Always(%v, %s)", l, describe(bad))
			}
		}
	}
	// What is asked for wants no room.
	if !impl.Always(asns{room}, without[0]) || !impl.Always(nil, without[1]) {
		t.Error("Always of what there is no room for")
	}
}

func TestCoversKnownOnes(t *testing.T) {
	for _, c := range []struct {
		states, s string
		want      int
	}{
		{"", "", -1},
		{"emp", "", 0},
		{"emp", "1>1", -1},
		{"a>nil", "a=1 1>0", 0},
		{"a>nil", "a=1 1>2", -1},
		{"b>nil; a>nil; a..nil", "a=1 1>0", 1},
		{"a..nil; a>nil", "a=1 1>0", 0},
		{"emp; b>c; a>a", "a=1 1>0", -1},
		// With any addresses for its names: one, two and three.
		{"a>_1", "a=1 1>5", 0},
		{"_1>nil", "6>0", 0},
		{"_1>nil", "1>0", 0},
		{"_1>_1", "4>4", 0},
		{"_1>_1", "4>5", -1},
		{"_1>_2", "4>5", 0},
		{"_10>_9", "5>4", 0},
		{"a>_1 _1>_2", "a=6 6>5 5>4", 0},
		{"a>_1 _1>_2 _2>_3", "a=6 6>5 5>4 4>3", 0},
		{"a>_1 _1>_2 _2>_3", "a=6 6>5 5>4 3>3", -1},
		{"_1>_2 _2>_3 _3>_1", "2>4 4>6 6>2", 0},
		{"_1!_2 _2!_3 _1!_3 _1.._2 _2.._3", "2>4 4>6", 0},
		{"_1!_2 _2!_3 _1!_3 _1.._2 _2.._3", "2>4", -1},
		// Or 0.
		{"a>_1", "a=1 1>0", 0},
		{"_1=nil", "", 0},
		{"_1=a", "", 0},
		{"_1!nil", "", 0},
		{"_1=a _1!nil", "", -1},
		{"_1..nil", "", 0},
		// Whatever its names are in the state.
		{"_1=a", "a=6", 0},
		{"_1!_2 _2!_3 _1!_3", "", 0},
		{"_1!_1", "", -1},
		{"_1=_2 _2!_1", "", -1},
		// The place of the first, whatever the names of those ahead of it are.
		{"_1>a; b>_1; _1>_2; emp", "a=1 b=2 2>3", 1},
		{"_1>a; _2!_1 _1>_1; _1>_2; b>c", "a=1 b=2 c=3 2>3", 2},
		{"_1=b a>_1; a>_1; _1>c", "a=1 1>3", 1},
	} {
		if i := checkCovers(t, listFrom(t, c.states), mustState(t, c.s)); i != c.want {
			t.Errorf("Covers(%q, %q) = %d", c.states, c.s, i)
		}
	}
	// A state's own names do not matter, and none of its variables is another one.
	s := mustState(t, "a=1 b=2 1>2")
	for x := impl.Vars + 1; x < impl.Terms; x++ {
		s.Terms[x] = x % 7
	}
	for _, c := range []struct {
		states string
		want   int
	}{{"_1>_2", 0}, {"_3>b", 0}, {"a>_4", 0}, {"b>_1; a>b", 1}, {"b>_5", -1}, {"_6=a _7=b _6>_7", 0}, {"_7=_6 _8=_9 a>b", -1}} {
		if i := checkCovers(t, listFrom(t, c.states), s); i != c.want {
			t.Errorf("Covers(%q) = %d", c.states, i)
		}
	}
}

// Three names are asked, four are too many, wherever that one stands; so are more than MaxStates.
func TestCoversLimits(t *testing.T) {
	s := mustState(t, "a=1 1>2")
	yes, no := mustRead(t, "a>_1"), mustRead(t, "b>_1")
	three, four := mustRead(t, "_1=_2 _3=_3 a>_1"), mustRead(t, "_1=_2 _3=_4 a>_1")
	for _, c := range []struct {
		l    asns
		want int
	}{
		{asns{three}, 0},
		{asns{four}, -1},
		{asns{yes, three}, 0},
		{asns{yes, four}, -1},
		{asns{four, yes}, -1},
		{asns{no, three}, 1},
		{asns{no, four}, -1},
		{asns{allNames(), yes}, -1},
		{asns{mustRead(t, "_8=_9 _10=a a>_8"), yes}, 0},
		{slices.Repeat(asns{no}, 40), -1},
		{append(slices.Repeat(asns{no}, 39), yes), 39},
		{append(slices.Repeat(asns{no}, 40), yes), -1},
		{slices.Repeat(asns{yes}, 40), 0},
		{slices.Repeat(asns{yes}, 41), -1},
		{slices.Repeat(asns{yes}, 5000), -1},
	} {
		if i := impl.Covers(c.l, s); i != c.want {
			t.Errorf("Covers of %d = %d, not %d", len(c.l), i, c.want)
		}
	}
	// There need not be room for them.
	roomless := impl.Asn{Eqs: repeated(impl.Pair{A: 2, B: 2}, 12), Nes: repeated(impl.Pair{A: 1}, 12), Segs: pairs{{A: 1, B: 6}}}
	if i := checkCovers(t, asns{roomless, yes}, s); i != 0 {
		t.Errorf("Covers(%s) = %d", asnWord(roomless), i)
	}
	if i := checkCovers(t, asns{no, yes, roomless}, s); i != 1 {
		t.Errorf("Covers(%s) = %d", asnWord(roomless), i)
	}
	for _, bad := range wrongAsns() {
		for _, l := range []asns{{bad}, {bad, yes}, {yes, bad}, append(slices.Repeat(asns{yes}, 39), bad)} {
			if i := checkCovers(t, l, s); i != -1 {
				t.Errorf("Covers(%s) = %d", describe(bad), i)
			}
		}
	}
	for _, s := range wrongStates() {
		for _, l := range []asns{nil, {{}}, {yes}, {mustRead(t, "_1=a")}} {
			if i := impl.Covers(l, s); i != -1 {
				t.Errorf("Covers(%s) = %d", describeState(s), i)
			}
		}
	}
}
