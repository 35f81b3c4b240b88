package tests

import (
	"fmt"
	"slices"
	"strings"
	"testing"

	"loop.example/g00621/impl"
)

type cmds = []impl.Cmd

// sameProg takes an empty list and nil as the same, as the conventions do.
func sameProg(x, y cmds) bool {
	return slices.EqualFunc(x, y, func(c, d impl.Cmd) bool {
		return c.Kind == d.Kind && c.X == d.X && c.Y == d.Y && c.Eq == d.Eq && sameAsn(c.Inv, d.Inv) && sameProg(c.A, d.A) && sameProg(c.B, d.B)
	})
}

func cloneProg(l cmds) cmds {
	l = slices.Clone(l)
	for i, c := range l {
		lists := listsOf(c.Inv)
		for k := range lists {
			lists[k] = slices.Clone(lists[k])
		}
		l[i].Inv = asnOf(lists)
		l[i].A, l[i].B = cloneProg(c.A), cloneProg(c.B)
	}
	return l
}

func describeProg(l cmds) string { return fmt.Sprintf("%+v", l) }

func blockWord(l cmds) string {
	if len(l) == 0 {
		return "{ }"
	}
	return "{ " + progWord(l) + " }"
}

// progWord is told apart from the program's own way; it takes what is ProgOk.
func progWord(l cmds) string {
	var out []string
	for _, c := range l {
		x, y, sign := termWord(c.X), termWord(c.Y), "!"
		if c.Eq {
			sign = "="
		}
		switch c.Kind {
		case impl.CmSet:
			out = append(out, x+" := "+y)
		case impl.CmLoad:
			out = append(out, x+" := ["+y+"]")
		case impl.CmStore:
			out = append(out, "["+x+"] := "+y)
		case impl.CmNew:
			out = append(out, "new "+x)
		case impl.CmFree:
			out = append(out, "free "+x)
		case impl.CmIf:
			out = append(out, "if "+x+" "+sign+" "+y+" "+blockWord(c.A)+" "+blockWord(c.B))
		case impl.CmWhile:
			out = append(out, "while "+x+" "+sign+" "+y+" ( "+asnWord(c.Inv)+" ) "+blockWord(c.A))
		}
	}
	return strings.Join(out, " ")
}

// mustProg makes tests short; it is held to progWord, not to the program's own text.
func mustProg(t *testing.T, text string) cmds {
	t.Helper()
	l, ok := impl.ProgRead([]byte(text))
	if !ok || progWord(l) != text {
		t.Fatalf("ProgRead(%q) = %s, %v", text, describeProg(l), ok)
	}
	return l
}

func mustCmd(t *testing.T, text string) impl.Cmd {
	t.Helper()
	l := mustProg(t, text)
	if len(l) != 1 {
		t.Fatalf("%q is no command", text)
	}
	return l[0]
}

// leveled is a command with how deep it is.
type leveled struct {
	impl.Cmd
	deep int
}

// everyBy goes level by level, not into one command after the other.
func everyBy(l cmds) []leveled {
	var out []leveled
	for _, c := range l {
		out = append(out, leveled{c, 0})
	}
	for i := 0; i < len(out); i++ {
		for _, c := range slices.Concat(out[i].A, out[i].B) {
			out = append(out, leveled{c, out[i].deep + 1})
		}
	}
	return out
}

func varBy(t int) bool { return t >= 1 && t <= 5 }

func valueBy(t int) bool { return t >= 0 && t <= 5 }

func invBy(a impl.Asn) bool {
	for _, l := range listsOf(a) {
		for _, p := range l {
			if !valueBy(p.A) || !valueBy(p.B) {
				return false
			}
		}
	}
	return len(a.Eqs) <= 4 && len(a.Nes) <= 4 && len(a.Cells)+len(a.Segs) <= 3
}

// fieldsBy asks each field apart from the others by what the kind names.
func fieldsBy(c impl.Cmd) bool {
	if c.Kind < 0 || c.Kind > 6 {
		return false
	}
	names := []string{"XY", "XY", "XY", "X", "X", "XYEAB", "XYEAI"}[c.Kind]
	named := func(w string) bool { return strings.Contains(names, w) }
	x := varBy(c.X) || valueBy(c.X) && c.Kind >= impl.CmIf
	y := varBy(c.Y) || c.Y == 0 && c.Kind != impl.CmLoad
	if !named("Y") {
		y = c.Y == 0
	}
	return x && y && (named("E") || !c.Eq) && (named("A") || len(c.A) == 0) && (named("B") || len(c.B) == 0) && (isZero(c.Inv) || named("I") && invBy(c.Inv))
}

func progOkBy(l cmds) bool {
	all := everyBy(l)
	for _, c := range all {
		if !fieldsBy(c.Cmd) || c.deep > 3 {
			return false
		}
	}
	return len(all) <= 20
}

func ascendingBy(l []int) []int {
	slices.Sort(l)
	return slices.Compact(l)
}

func changesBy(l cmds) []int {
	var out []int
	for _, c := range everyBy(l) {
		if c.Kind == impl.CmSet || c.Kind == impl.CmLoad || c.Kind == impl.CmNew {
			out = append(out, c.X)
		}
	}
	return ascendingBy(out)
}

func mentionsBy(l cmds) []int {
	var out []int
	for _, c := range everyBy(l) {
		for _, p := range append(slices.Concat(c.Inv.Eqs, c.Inv.Nes, c.Inv.Cells, c.Inv.Segs), impl.Pair{A: c.X, B: c.Y}) {
			out = append(out, p.A, p.B)
		}
	}
	return slices.DeleteFunc(ascendingBy(out), func(t int) bool { return t == 0 })
}

// checkAsked holds what is asked of a program to what is told apart from it.
func checkAsked(t *testing.T, l cmds) {
	t.Helper()
	ok := progOkBy(l)
	size, deep, loops, plain := -1, -1, -1, ok
	var changes, mentions []int
	text := ""
	if ok {
		all := everyBy(l)
		size, deep, loops, changes, mentions, text = len(all), 0, 0, changesBy(l), mentionsBy(l), progWord(l)
		for _, c := range all {
			deep = max(deep, c.deep+1)
			if c.Kind == impl.CmWhile {
				loops++
			}
			plain = plain && c.Kind < impl.CmIf
		}
	}
	if impl.ProgOk(l) != ok || impl.Size(l) != size || impl.Deep(l) != deep || impl.Loops(l) != loops || impl.IsPlain(l) != plain {
		t.Fatalf("%s: ProgOk %v, Size %d, Deep %d, Loops %d, IsPlain %v", describeProg(l), impl.ProgOk(l), impl.Size(l), impl.Deep(l), impl.Loops(l), impl.IsPlain(l))
	}
	if !slices.Equal(impl.Changes(l), changes) || !slices.Equal(impl.Mentions(l), mentions) || string(impl.ProgText(l)) != text {
		t.Fatalf("%s: Changes %v, Mentions %v, ProgText %q", describeProg(l), impl.Changes(l), impl.Mentions(l), impl.ProgText(l))
	}
	for _, c := range l {
		if impl.CmdOk(c) != progOkBy(cmds{c}) {
			t.Fatalf("CmdOk(%+v) = %v", c, impl.CmdOk(c))
		}
	}
}

// stepBy takes a plain command; it tells the state by itself.
func stepBy(s impl.State, c impl.Cmd, pick int) (impl.State, int) {
	out := cloneState(s)
	x, y := s.Terms[c.X], s.Terms[c.Y]
	switch c.Kind {
	case impl.CmSet:
		out.Terms[c.X] = y
		return out, impl.RsDone
	case impl.CmNew:
		at := pick%6 + 1
		for n := 0; s.Heap[at] != gone; n++ {
			if n == 6 {
				return out, impl.RsRoom
			}
			if at++; at == 7 {
				at = 1
			}
		}
		out.Terms[c.X], out.Heap[at] = at, 0
		return out, impl.RsDone
	case impl.CmLoad:
		if s.Heap[y] != gone {
			out.Terms[c.X] = s.Heap[y]
			return out, impl.RsDone
		}
	case impl.CmStore:
		if s.Heap[x] != gone {
			out.Heap[x] = y
			return out, impl.RsDone
		}
	case impl.CmFree:
		if s.Heap[x] != gone {
			out.Heap[x] = gone
			return out, impl.RsDone
		}
	}
	return out, impl.RsFault
}

func guardBy(s impl.State, c impl.Cmd) bool {
	if c.Eq {
		return s.Terms[c.X] == s.Terms[c.Y]
	}
	return s.Terms[c.X] != s.Terms[c.Y]
}

// told is what a run came to, how much of its fuel and how many picks it took, and how many turns.
type told struct {
	state impl.State
	code  int
	spent int
	news  int
	turns int
}

// runBy keeps all that is still to do in one list, so that nothing in it calls itself: a loop stands behind its own turn.
func runBy(s impl.State, l cmds, picks []int, fuel int) told {
	type task struct {
		impl.Cmd
		again bool
	}
	out := told{state: cloneState(s)}
	var todo []task
	ahead := func(l cmds) {
		for _, c := range slices.Backward(l) {
			todo = append(todo, task{Cmd: c})
		}
	}
	ahead(l)
	for len(todo) > 0 {
		now := todo[len(todo)-1]
		todo = todo[:len(todo)-1]
		loop := now.Kind == impl.CmWhile
		turns := loop && guardBy(out.state, now.Cmd)
		cost := 0
		if !now.again {
			cost++
		}
		if turns {
			cost++
		}
		if out.spent+cost > fuel {
			out.code, out.spent = impl.RsFuel, fuel
			return out
		}
		out.spent += cost
		switch {
		case turns:
			out.turns++
			todo = append(todo, task{Cmd: now.Cmd, again: true})
			ahead(now.A)
		case loop:
		case now.Kind == impl.CmIf && guardBy(out.state, now.Cmd):
			ahead(now.A)
		case now.Kind == impl.CmIf:
			ahead(now.B)
		default:
			pick := 0
			if now.Kind == impl.CmNew && len(picks) > 0 {
				pick = picks[out.news%len(picks)]
				out.news++
			}
			if out.state, out.code = stepBy(out.state, now.Cmd, pick); out.code != impl.RsDone {
				return out
			}
		}
	}
	return out
}

// variable is drawn with the first ones often, so that commands meet.
func (d *draw) variable() int { return 1 + min(d.below(impl.Vars), d.below(impl.Vars)) }

func (d *draw) value() int {
	if d.below(5) == 0 {
		return impl.Nil
	}
	return d.variable()
}

func (d *draw) inv() impl.Asn {
	pieces := d.below(4)
	cells := d.below(pieces + 1)
	return impl.Asn{
		Eqs:   d.pairs(d.below(5), impl.Vars+1),
		Nes:   d.pairs(d.below(5), impl.Vars+1),
		Cells: d.pairs(cells, impl.Vars+1),
		Segs:  d.pairs(pieces-cells, impl.Vars+1),
	}
}

func (d *draw) plainCmd(kind int) impl.Cmd {
	c := impl.Cmd{Kind: kind, X: d.variable()}
	switch kind {
	case impl.CmSet, impl.CmStore:
		c.Y = d.value()
	case impl.CmLoad:
		c.Y = d.variable()
	}
	return c
}

// cmd has at most left commands with itself, and is at deep.
func (d *draw) cmd(left, deep int) impl.Cmd {
	kind := d.below(9)
	if kind <= impl.CmFree || left == 1 && d.below(4) > 0 {
		return d.plainCmd(kind % 5)
	}
	c := impl.Cmd{Kind: impl.CmIf, X: d.value(), Y: d.value(), Eq: d.below(2) == 0}
	c.A = d.list(left-1, deep+1)
	if kind < 7 {
		c.B = d.list(left-1-len(everyBy(c.A)), deep+1)
		return c
	}
	c.Kind = impl.CmWhile
	c.Inv = d.inv()
	if n := len(everyBy(c.A)); n+1 < left && deep < impl.MaxDeep && d.below(3) > 0 {
		c = d.ending(c)
	}
	return c
}

// ending has a loop go on by its last command, so that many come to an end behind a few turns.
func (d *draw) ending(c impl.Cmd) impl.Cmd {
	c.X = d.variable()
	if d.below(4) > 0 {
		c.Y = impl.Nil
	}
	last := impl.Cmd{Kind: impl.CmLoad, X: c.X, Y: c.X}
	if d.below(3) == 0 {
		last = impl.Cmd{Kind: impl.CmSet, X: c.X, Y: d.value()}
	}
	c.Eq = false
	c.A = append(c.A, last)
	if d.below(2) == 0 {
		c.A = c.A[len(c.A)-1:]
	}
	return c
}

func (d *draw) list(left, deep int) cmds {
	var l cmds
	if deep > impl.MaxDeep {
		return l
	}
	for n := d.below(6); n > 0 && left > 0; n-- {
		l = append(l, d.cmd(left, deep))
		left -= len(everyBy(l[len(l)-1:]))
	}
	return l
}

func (d *draw) prog() cmds { return d.list(1+d.below(impl.MaxCmds), 0) }

func drawnProgs(n int) []cmds {
	d := draw(6)
	l := make([]cmds, n)
	for i := range l {
		l[i] = d.prog()
	}
	return l
}

func (d *draw) picks() []int {
	l := make([]int, []int{0, 1, 2, 3, 7}[d.below(5)])
	for i := range l {
		l[i] = d.below(20)
		if d.below(4) == 0 {
			l[i] = d.below(1001)
		}
	}
	return l
}

// drawnRuns hands out drawn programs with states on which many of them get far.
func drawnRuns(n int, do func(d *draw, s impl.State, l cmds)) {
	d := draw(7)
	for range n {
		s := d.state()
		often, list := d.below(6), d.below(2) == 0
		for x := 1; x <= impl.Addrs; x++ {
			if s.Heap[x] == gone && d.below(5) < often {
				s.Heap[x] = d.below(impl.Addrs + 1)
			}
			if s.Heap[x] != gone && list {
				s.Heap[x] = d.below(x)
			}
		}
		if d.below(3) > 0 {
			for x := 1; x <= impl.Vars; x++ {
				s.Terms[x] = 1 + d.below(impl.Addrs)
			}
		}
		do(&d, s, d.prog())
	}
}

// nested has commands in commands, n deep, one of a kind in another one; in the innermost is in.
func nested(n int, in cmds, put func(in cmds) impl.Cmd) cmds {
	for range n {
		in = cmds{put(in)}
	}
	return in
}

// wraps are the three places in which commands can be.
var wraps = []func(in cmds) impl.Cmd{
	func(in cmds) impl.Cmd { return impl.Cmd{Kind: impl.CmIf, A: in} },
	func(in cmds) impl.Cmd { return impl.Cmd{Kind: impl.CmIf, X: 1, Eq: true, B: in} },
	func(in cmds) impl.Cmd { return impl.Cmd{Kind: impl.CmWhile, X: 1, Y: 2, A: in} },
}

var freeA = impl.Cmd{Kind: impl.CmFree, X: 1}

// oneOfEach has a right command of each kind, in order.
func oneOfEach() cmds {
	return cmds{
		{Kind: impl.CmSet, X: 1, Y: 2},
		{Kind: impl.CmLoad, X: 1, Y: 2},
		{Kind: impl.CmStore, X: 1, Y: 2},
		{Kind: impl.CmNew, X: 1},
		freeA,
		{Kind: impl.CmIf, X: 1, Y: 2, Eq: true, A: cmds{freeA}, B: cmds{freeA}},
		{Kind: impl.CmWhile, X: 1, Y: 2, Eq: true, Inv: impl.Asn{Segs: pairs{{A: 1, B: 0}}}, A: cmds{freeA}},
	}
}

// wrongCmds are each just not CmdOk: one field of a right one is wrong, or is not named and not zero.
func wrongCmds() cmds {
	var out cmds
	bend := func(c impl.Cmd, how func(c *impl.Cmd)) {
		c = cloneProg(cmds{c})[0]
		how(&c)
		out = append(out, c)
	}
	numbers := append([]int{impl.Vars + 1, impl.Terms - 1}, wrongTerms...)
	for _, c := range oneOfEach() {
		for _, x := range numbers {
			bend(c, func(c *impl.Cmd) { c.X = x })
			bend(c, func(c *impl.Cmd) { c.Y = x })
		}
		switch c.Kind {
		case impl.CmSet, impl.CmStore:
			bend(c, func(c *impl.Cmd) { c.X = impl.Nil })
		case impl.CmLoad:
			bend(c, func(c *impl.Cmd) { c.X = impl.Nil })
			bend(c, func(c *impl.Cmd) { c.Y = impl.Nil })
		case impl.CmNew, impl.CmFree:
			bend(c, func(c *impl.Cmd) { c.X = impl.Nil })
			bend(c, func(c *impl.Cmd) { c.Y = 1 })
			bend(c, func(c *impl.Cmd) { c.Y = impl.Vars })
		}
		if c.Kind < impl.CmIf {
			bend(c, func(c *impl.Cmd) { c.Eq = true })
			bend(c, func(c *impl.Cmd) { c.A = cmds{freeA} })
			bend(c, func(c *impl.Cmd) { c.B = cmds{freeA} })
		}
		if c.Kind == impl.CmWhile {
			bend(c, func(c *impl.Cmd) { c.B = cmds{freeA} })
			for _, bad := range wrongInvs() {
				bend(c, func(c *impl.Cmd) { c.Inv = bad })
			}
			continue
		}
		for k := range kinds {
			var l [kinds]pairs
			l[k] = pairs{{}}
			bend(c, func(c *impl.Cmd) { c.Inv = asnOf(l) })
			l[k] = repeated(impl.Pair{A: -1, B: 99}, 5000)
			bend(c, func(c *impl.Cmd) { c.Inv = asnOf(l) })
		}
	}
	for _, kind := range append([]int{7, 8}, wrongTerms...) {
		for _, c := range oneOfEach() {
			bend(c, func(c *impl.Cmd) { c.Kind = kind })
		}
		out = append(out, impl.Cmd{Kind: kind})
	}
	return append(out, impl.Cmd{})
}

func wrongInvs() []impl.Asn {
	p := impl.Pair{A: 1, B: 2}
	out := []impl.Asn{
		{Eqs: repeated(p, 5)},
		{Nes: repeated(p, 5)},
		{Cells: repeated(p, 4)},
		{Segs: repeated(p, 4)},
		{Cells: repeated(p, 3), Segs: repeated(p, 1)},
		{Cells: repeated(p, 1), Segs: repeated(p, 3)},
		{Cells: repeated(p, 2), Segs: repeated(p, 2)},
		{Eqs: repeated(p, 4), Nes: repeated(p, 5), Cells: repeated(p, 3)},
		{Eqs: repeated(p, 5), Nes: repeated(p, 4), Segs: repeated(p, 3)},
	}
	for k := range kinds {
		for side := range 2 {
			for _, x := range []int{impl.Vars + 1, impl.Terms - 1} {
				l := [kinds]pairs{repeated(p, 1), repeated(p, 1), repeated(p, 1), repeated(p, 1)}
				if side == 0 {
					l[k][0].A = x
				} else {
					l[k][0].B = x
				}
				out = append(out, asnOf(l))
			}
		}
	}
	return append(out, wrongAsns()...)
}

// wrongProgs are each just not ProgOk.
func wrongProgs() []cmds {
	out := []cmds{slices.Repeat(cmds{freeA}, impl.MaxCmds+1), slices.Repeat(cmds{freeA}, 5000)}
	for _, put := range wraps {
		out = append(out, nested(4, cmds{freeA}, put), cmds{put(slices.Repeat(cmds{freeA}, impl.MaxCmds))}, nested(300, nil, put))
	}
	for i, c := range wrongCmds() {
		out = append(out, cmds{c})
		if i%7 == 0 {
			out = append(out, cmds{freeA, c}, cmds{c, freeA}, nested(1+i%3, cmds{freeA, c}, wraps[i%len(wraps)]))
		}
	}
	return out
}

// endlessProgs can't be told whole: no test may write them, or go through all that is in them.
func endlessProgs() []cmds {
	var out []cmds
	for _, put := range wraps {
		l := make(cmds, 1)
		l[0] = put(l)
		wide := slices.Repeat(cmds{put(nil)}, impl.MaxCmds)
		for i := range wide {
			wide[i] = put(wide)
		}
		again := slices.Repeat(cmds{freeA}, impl.MaxCmds)
		for range 40 {
			again = slices.Repeat(cmds{put(again)}, impl.MaxCmds)
		}
		out = append(out, l, wide, again)
	}
	return out
}

// wrongPicks are just outside, and far from it.
var wrongPicks = []int{-1, 1001, -2, 1002, 5000, -1000, -1 << 63, 1<<63 - 1, 1 << 32, -(1 << 32)}
