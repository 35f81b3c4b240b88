package tests

import (
	"slices"
	"testing"

	"loop.example/g00621/impl"
)

func TestConstantsOfPrograms(t *testing.T) {
	got := []int{impl.CmSet, impl.CmLoad, impl.CmStore, impl.CmNew, impl.CmFree, impl.CmIf, impl.CmWhile, impl.RsDone, impl.RsFault, impl.RsFuel, impl.RsRoom, impl.MaxDeep, impl.MaxCmds}
	if !slices.Equal(got, []int{0, 1, 2, 3, 4, 5, 6, 0, 1, 2, 3, 3, 20}) {
		t.Fatal("a number is not that of the document")
	}
}

// Each kind with X and Y in and just outside of what it takes.
func TestTermsOfCommands(t *testing.T) {
	for kind := -2; kind <= 9; kind++ {
		for x := -2; x <= impl.Terms+1; x++ {
			for y := -2; y <= impl.Terms+1; y++ {
				variable := func(z int) bool { return z >= 1 && z <= 5 }
				value := func(z int) bool { return z >= 0 && z <= 5 }
				want := false
				switch kind {
				case impl.CmSet, impl.CmStore:
					want = variable(x) && value(y)
				case impl.CmLoad:
					want = variable(x) && variable(y)
				case impl.CmNew, impl.CmFree:
					want = variable(x) && y == 0
				case impl.CmIf, impl.CmWhile:
					want = value(x) && value(y)
				}
				c := impl.Cmd{Kind: kind, X: x, Y: y}
				if impl.CmdOk(c) != want || impl.ProgOk(cmds{c}) != want || impl.ProgOk(cmds{freeA, c}) != want {
					t.Errorf("CmdOk(%+v) = %v", c, !want)
				}
				checkAsked(t, cmds{c})
			}
		}
	}
}

// What is empty is zero, be it nil or not.
func TestEmptyListsAreZero(t *testing.T) {
	for _, c := range oneOfEach() {
		for _, empty := range []impl.Asn{{}, {Eqs: pairs{}, Nes: pairs{}, Cells: pairs{}, Segs: pairs{}}} {
			c.Inv = empty
			c.A, c.B = nil, nil
			if !impl.CmdOk(c) {
				t.Errorf("not CmdOk(%+v)", c)
			}
			c.A, c.B = cmds{}, cmds{}
			if !impl.CmdOk(c) {
				t.Errorf("not CmdOk(%+v)", c)
			}
		}
	}
}

// Each field by itself is there or not, in every kind.
func TestFieldsThatAreNotNamed(t *testing.T) {
	invs := []impl.Asn{{}, {Eqs: pairs{{}}}, {Nes: pairs{{}}}, {Cells: pairs{{}}}, {Segs: pairs{{}}}}
	right := 0
	for kind := range 7 {
		for y := range 2 {
			for _, eq := range []bool{false, true} {
				for _, inv := range invs {
					for _, a := range []cmds{nil, {freeA}} {
						for _, b := range []cmds{nil, {freeA}} {
							c := impl.Cmd{Kind: kind, X: 1, Y: y, Eq: eq, Inv: inv, A: a, B: b}
							if fieldsBy(c) {
								right++
							}
							if impl.CmdOk(c) != fieldsBy(c) {
								t.Errorf("CmdOk(%+v) = %v", c, !fieldsBy(c))
							}
						}
					}
				}
			}
		}
	}
	// CmSet and CmStore take both of y, CmLoad, CmNew and CmFree one, CmIf all but Inv, CmWhile all but B.
	if right != 2+2+1+1+1+2*2*2*2+2*2*5*2 {
		t.Errorf("%d are right", right)
	}
}

func TestWrongCommands(t *testing.T) {
	s := mustState(t, "a=1 b=2 1>2 2>0")
	for _, c := range wrongCmds() {
		if fieldsBy(c) {
			t.Fatalf("%+v is right", c)
		}
		if impl.CmdOk(c) || impl.Guard(s, c) {
			t.Errorf("CmdOk(%+v)", c)
		}
		if out, code := impl.Step(s, c, 0); code != -1 || !isZeroState(out) {
			t.Errorf("Step(%+v) = %s, %d", c, describeState(out), code)
		}
		for _, l := range []cmds{{c}, {c, freeA}, {freeA, c}, {freeA, c, freeA}} {
			if impl.ProgOk(l) {
				t.Errorf("ProgOk(%s)", describeProg(l))
			}
			for n := range impl.MaxDeep + 1 {
				for _, put := range wraps {
					in := nested(n, l, put)
					if impl.ProgOk(in) || impl.CmdOk(in[0]) && n > 0 {
						t.Errorf("ProgOk(%s)", describeProg(in))
					}
				}
			}
		}
	}
}

func TestInvariants(t *testing.T) {
	p := impl.Pair{A: 1, B: 5}
	ok := func(inv impl.Asn) bool { return impl.CmdOk(impl.Cmd{Kind: impl.CmWhile, Inv: inv}) }
	for e := range 7 {
		for n := range 7 {
			for c := range 6 {
				for s := range 6 {
					a := impl.Asn{Eqs: repeated(p, e), Nes: repeated(p, n), Cells: repeated(p, c), Segs: repeated(p, s)}
					if want := e <= 4 && n <= 4 && c+s <= 3; ok(a) != want {
						t.Errorf("an invariant of %d, %d, %d, %d: %v", e, n, c, s, !want)
					}
				}
			}
		}
	}
	for x := -2; x <= impl.Terms+1; x++ {
		for k := range kinds {
			for _, q := range (pairs{{A: x, B: 1}, {A: 1, B: x}}) {
				var l [kinds]pairs
				l[k] = pairs{p, q}
				if want := x >= 0 && x <= 5; ok(asnOf(l)) != want {
					t.Errorf("an invariant with %v in the kind %d: %v", q, k, !want)
				}
			}
		}
	}
	for _, a := range wrongInvs() {
		if ok(a) {
			t.Errorf("an invariant %s", describe(a))
		}
	}
	// It need not be opened, or possible.
	for _, text := range []string{"emp", "a!a", "nil>nil", "a>b a>b", "a..nil", "nil..nil nil..nil"} {
		if !ok(mustRead(t, text)) {
			t.Errorf("no invariant %q", text)
		}
	}
}

// Three deep are right, four are not, in each place that commands can be in.
func TestDepth(t *testing.T) {
	for _, put := range wraps {
		for _, other := range wraps {
			for n := range 8 {
				l := nested(n, cmds{freeA}, put)
				if n > 0 {
					l = cmds{other(nested(n-1, cmds{freeA}, put))}
				}
				ok := n <= 3
				if impl.ProgOk(l) != ok || impl.CmdOk(l[0]) != ok {
					t.Errorf("%d deep: ProgOk(%s) = %v", n, describeProg(l), !ok)
				}
				checkAsked(t, l)
				if ok && impl.Deep(l) != n+1 {
					t.Errorf("Deep(%s) = %d", progWord(l), impl.Deep(l))
				}
				// What has nothing in it is no deeper than itself.
				in := nested(n, cmds{put(nil)}, other)
				if impl.ProgOk(in) != ok {
					t.Errorf("ProgOk(%s) = %v", describeProg(in), !ok)
				}
				checkAsked(t, in)
				// The deepest one is behind others that are right.
				in = cmds{freeA, put(cmds{freeA}), l[0]}
				if impl.ProgOk(in) != ok {
					t.Errorf("ProgOk(%s) = %v", describeProg(in), !ok)
				}
				checkAsked(t, in)
			}
		}
	}
}

// Twenty are right, one more is not, wherever they are.
func TestHowMany(t *testing.T) {
	for n := range 30 {
		l := slices.Repeat(cmds{freeA}, n)
		want := -1
		if n <= 20 {
			want = n
		}
		if impl.Size(l) != want || impl.ProgOk(l) != (n <= 20) {
			t.Errorf("%d commands: %d", n, impl.Size(l))
		}
		checkAsked(t, l)
		for _, put := range wraps {
			for deep := 1; deep <= 3; deep++ {
				in := nested(deep, l, put)
				ok := n+deep <= 20
				if impl.ProgOk(in) != ok || impl.CmdOk(in[0]) != ok {
					t.Errorf("%d commands %d deep: %v", n, deep, !ok)
				}
				checkAsked(t, in)
			}
			for m := range n + 1 {
				both := append(slices.Clone(l[m:]), put(l[:m]))
				if ok := n+1 <= 20; impl.ProgOk(both) != ok || ok && impl.Size(both) != n+1 {
					t.Errorf("%d and %d commands: %d", n-m, m, impl.Size(both))
				}
				checkAsked(t, both)
				two := cmds{{Kind: impl.CmIf, A: l[:m], B: l[m:]}}
				if ok := n+1 <= 20; impl.ProgOk(two) != ok || ok && impl.Size(two) != n+1 {
					t.Errorf("%d in A and %d in B: %d", m, n-m, impl.Size(two))
				}
				checkAsked(t, two)
			}
		}
	}
}

func TestAskedOfDrawnPrograms(t *testing.T) {
	var deep, loops, full int
	d := draw(8)
	for _, l := range drawnProgs(3000) {
		if !progOkBy(l) {
			t.Fatalf("drawn: %s", describeProg(l))
		}
		checkAsked(t, l)
		if impl.Deep(l) == 4 {
			deep++
		}
		if impl.Loops(l) > 1 {
			loops++
		}
		if impl.Size(l) == 20 {
			full++
		}
		checkAsked(t, d.bentProg(l))
	}
	if min(deep, loops, full) < 20 {
		t.Fatalf("%d are deep, %d have loops, %d are full", deep, loops, full)
	}
}

// bentProg has one number or list somewhere in it changed; it is often not ProgOk.
func (d *draw) bentProg(l cmds) cmds {
	l = cloneProg(l)
	at := l
	for len(at) > 0 {
		c := &at[d.below(len(at))]
		if in := slices.Concat(c.A, c.B); len(in) > 0 && d.below(2) == 0 {
			if at = c.A; len(at) == 0 || len(c.B) > 0 && d.below(2) == 0 {
				at = c.B
			}
			continue
		}
		switch d.below(7) {
		case 0:
			c.Kind = d.below(9) - 1
		case 1:
			c.X = d.below(9) - 1
		case 2:
			c.Y = d.below(9) - 1
		case 3:
			c.Eq = !c.Eq
		case 4:
			c.Inv = impl.Asn{Eqs: d.pairs(d.below(6), 7), Nes: d.pairs(d.below(6), 7), Segs: d.pairs(d.below(5), 7)}
		case 5:
			c.A = append(c.A, d.list(20, 3)...)
		default:
			c.B = append(c.B, d.list(20, 3)...)
		}
		return l
	}
	return append(l, impl.Cmd{Kind: d.below(9) - 1, X: d.below(7)})
}

func TestAskedKnownOnes(t *testing.T) {
	for _, c := range []struct {
		text              string
		size, deep, loops int
		plain             bool
		changes, mentions []int
	}{
		{"", 0, 0, 0, true, nil, nil},
		{"a := b", 1, 1, 0, true, []int{1}, []int{1, 2}},
		{"a := nil", 1, 1, 0, true, []int{1}, []int{1}},
		{"b := [a]", 1, 1, 0, true, []int{2}, []int{1, 2}},
		{"[b] := a", 1, 1, 0, true, nil, []int{1, 2}},
		{"new e", 1, 1, 0, true, []int{5}, []int{5}},
		{"free e", 1, 1, 0, true, nil, []int{5}},
		{"if nil = nil { } { }", 1, 1, 0, false, nil, nil},
		{"if e ! d { } { }", 1, 1, 0, false, nil, []int{4, 5}},
		{"while nil ! nil ( emp ) { }", 1, 1, 1, false, nil, nil},
		{"while b = nil ( d=c a!nil ) { }", 1, 1, 1, false, nil, []int{1, 2, 3, 4}},
		{"while nil = nil ( b>c d..e ) { }", 1, 1, 1, false, nil, []int{2, 3, 4, 5}},
		{"e := d c := [d] new a [b] := d free b new c", 6, 1, 0, true, []int{1, 3, 5}, []int{1, 2, 3, 4, 5}},
		{"if a = nil { b := nil } { c := [d] }", 3, 2, 0, false, []int{2, 3}, []int{1, 2, 3, 4}},
		{"if a = nil { } { if a = nil { } { new c } }", 3, 3, 0, false, []int{3}, []int{1, 3}},
		{"while a = nil ( emp ) { while b = nil ( emp ) { while c = nil ( emp ) { new d } } }", 4, 4, 3, false, []int{4}, []int{1, 2, 3, 4}},
		{"if a = b { while a = b ( emp ) { free a } } { while a = b ( emp ) { } free b }", 5, 3, 2, false, nil, []int{1, 2}},
		{"new a while a ! nil ( c>d ) { } free a", 3, 1, 1, false, []int{1}, []int{1, 3, 4}},
	} {
		l := mustProg(t, c.text)
		if impl.Size(l) != c.size || impl.Deep(l) != c.deep || impl.Loops(l) != c.loops || impl.IsPlain(l) != c.plain {
			t.Errorf("%q: Size %d, Deep %d, Loops %d, IsPlain %v", c.text, impl.Size(l), impl.Deep(l), impl.Loops(l), impl.IsPlain(l))
		}
		if !slices.Equal(impl.Changes(l), c.changes) || !slices.Equal(impl.Mentions(l), c.mentions) {
			t.Errorf("%q: Changes %v, Mentions %v", c.text, impl.Changes(l), impl.Mentions(l))
		}
		checkAsked(t, l)
	}
}

// What is not ProgOk gets the one answer of each function.
func TestProgramsAreRefused(t *testing.T) {
	s := mustState(t, "a=1 b=2 1>2 2>0")
	for i, l := range append(wrongProgs(), endlessProgs()...) {
		if impl.ProgOk(l) || impl.IsPlain(l) {
			t.Errorf("ProgOk of the %d. wrong one", i)
		}
		if impl.Size(l) != -1 || impl.Deep(l) != -1 || impl.Loops(l) != -1 {
			t.Errorf("of the %d. wrong one Size %d, Deep %d, Loops %d", i, impl.Size(l), impl.Deep(l), impl.Loops(l))
		}
		if len(impl.ProgText(l)) != 0 || len(impl.Changes(l)) != 0 || len(impl.Mentions(l)) != 0 {
			t.Errorf("of the %d. wrong one %q, %v, %v", i, impl.ProgText(l), impl.Changes(l), impl.Mentions(l))
		}
		if out, code := impl.Run(s, l, nil, 1000); code != -1 || !isZeroState(out) {
			t.Errorf("Run of the %d. wrong one: %s, %d", i, describeState(out), code)
		}
		for _, other := range []cmds{nil, {freeA}, l} {
			if both, ok := impl.Seq(l, other); ok || len(both) != 0 {
				t.Errorf("Seq of the %d. wrong one, ahead", i)
			}
			if both, ok := impl.Seq(other, l); ok || len(both) != 0 {
				t.Errorf("Seq of the %d. wrong one, behind", i)
			}
		}
	}
	for _, l := range endlessProgs() {
		for _, c := range l {
			if out, code := impl.Step(s, c, 0); impl.CmdOk(c) || impl.Guard(s, c) || code != -1 || !isZeroState(out) {
				t.Error("CmdOk of what has no end")
			}
		}
	}
}

func TestSeqOfAsMany(t *testing.T) {
	for _, put := range wraps {
		for n := range 24 {
			for m := range 24 {
				for _, in := range []bool{false, true} {
					a, b := slices.Repeat(cmds{freeA}, n), slices.Repeat(cmds{{Kind: impl.CmNew, X: 2}}, m)
					if in && n > 0 {
						a = cmds{put(a[1:])}
					}
					if in && m > 0 {
						b = cmds{put(b[1:])}
					}
					l, ok := impl.Seq(a, b)
					want := n+m <= 20
					if ok != want || ok && !sameProg(l, slices.Concat(a, b)) || !ok && len(l) != 0 {
						t.Errorf("Seq of %d and %d: %s, %v", n, m, describeProg(l), ok)
					}
					if ok && (!impl.ProgOk(l) || impl.Size(l) != n+m) {
						t.Errorf("Seq of %d and %d: Size %d", n, m, impl.Size(l))
					}
				}
			}
		}
	}
}

func TestSeqOfDrawnPrograms(t *testing.T) {
	all := drawnProgs(600)
	var yes, no int
	for i, a := range all {
		b := all[(i*7+3)%len(all)]
		l, ok := impl.Seq(a, b)
		if ok != (len(everyBy(a))+len(everyBy(b)) <= 20) || ok && !sameProg(l, slices.Concat(a, b)) || !ok && len(l) != 0 {
			t.Fatalf("Seq(%q, %q) = %s, %v", progWord(a), progWord(b), describeProg(l), ok)
		}
		if !ok {
			no++
			continue
		}
		yes++
		checkAsked(t, l)
		if impl.Size(l) != impl.Size(a)+impl.Size(b) || impl.Loops(l) != impl.Loops(a)+impl.Loops(b) || impl.Deep(l) != max(impl.Deep(a), impl.Deep(b)) || impl.IsPlain(l) != (impl.IsPlain(a) && impl.IsPlain(b)) {
			t.Fatalf("Seq(%q, %q) is not both", progWord(a), progWord(b))
		}
		if !slices.Equal(impl.Changes(l), ascendingBy(slices.Concat(impl.Changes(a), impl.Changes(b)))) || !slices.Equal(impl.Mentions(l), ascendingBy(slices.Concat(impl.Mentions(a), impl.Mentions(b)))) {
			t.Fatalf("Seq(%q, %q) changes, or mentions, something else", progWord(a), progWord(b))
		}
	}
	if min(yes, no) < 50 {
		t.Fatalf("%d go together, %d do not", yes, no)
	}
}

func TestGuardKnownOnes(t *testing.T) {
	s := mustState(t, "a=1 b=1 c=2 1>2")
	for text, want := range map[string]bool{
		"if a = b { } { }":              true,
		"if a ! b { } { }":              false,
		"if a = c { } { }":              false,
		"if a ! c { } { }":              true,
		"if d = nil { } { }":            true,
		"if nil ! d { } { }":            false,
		"if d = e { } { }":              true,
		"if nil = nil { } { }":          true,
		"if nil ! nil { } { }":          false,
		"if a = b { free e } { }":       true,
		"while a = b ( emp ) { }":       true,
		"while a ! b ( emp ) { }":       false,
		"while c = a ( emp ) { }":       false,
		"while c ! a ( emp ) { }":       true,
		"while a = b ( a!a ) { }":       true, // the invariant is not asked
		"while a ! b ( a>c ) { }":       false,
		"while nil = e ( emp ) { }":     true,
		"while nil = nil ( emp ) { }":   true,
		"while a ! nil ( emp ) { }":     true,
		"a := b":                        false,
		"a := [b]":                      false,
		"[a] := b":                      false,
		"new a":                         false,
		"free a":                        false,
		"if a = b { } { free a }":       true,
		"while a ! a ( emp ) { new a }": false,
	} {
		if impl.Guard(s, mustCmd(t, text)) != want {
			t.Errorf("Guard(%q) = %v", text, !want)
		}
	}
	// X and Y of a plain one are the same, and not.
	for _, kind := range []int{impl.CmSet, impl.CmLoad, impl.CmStore} {
		for y := 1; y <= 3; y++ {
			if impl.Guard(s, impl.Cmd{Kind: kind, X: 1, Y: y}) {
				t.Errorf("Guard of the kind %d", kind)
			}
		}
	}
}

func TestGuardOfAll(t *testing.T) {
	d := draw(9)
	for _, s := range drawnStates(200) {
		for x := -1; x <= 6; x++ {
			for y := -1; y <= 6; y++ {
				for _, eq := range []bool{false, true} {
					for kind := -1; kind <= 7; kind++ {
						c := impl.Cmd{Kind: kind, X: x, Y: y, Eq: eq}
						want := (kind == impl.CmIf || kind == impl.CmWhile) && valueBy(x) && valueBy(y) && guardBy(s, c)
						if impl.Guard(s, c) != want {
							t.Fatalf("Guard(%s, %+v) = %v", describeState(s), c, !want)
						}
					}
				}
			}
		}
		c := impl.Cmd{Kind: impl.CmWhile, X: d.value(), Y: d.value(), Eq: true, Inv: d.inv(), A: d.list(19, 1)}
		if impl.Guard(s, c) != guardBy(s, c) {
			t.Fatalf("Guard(%s, %q)", describeState(s), progWord(cmds{c}))
		}
	}
	for _, s := range wrongStates() {
		for _, kind := range []int{impl.CmIf, impl.CmWhile} {
			if impl.Guard(s, impl.Cmd{Kind: kind, X: 1, Y: 1, Eq: true}) || impl.Guard(s, impl.Cmd{Kind: kind, Eq: true}) || impl.Guard(s, impl.Cmd{Kind: kind, X: 1}) {
				t.Errorf("Guard(%s)", describeState(s))
			}
		}
	}
}
