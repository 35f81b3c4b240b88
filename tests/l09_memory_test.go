package tests

import (
	"bytes"
	"math"
	"slices"
	"strings"
	"testing"

	"loop.example/g00621/impl"
)

// tripleRoom is a triple together with all the memory behind it.
type tripleRoom struct {
	triple impl.Triple
	asns   []*room
	prog   *progRoom
}

// tripleRoomOf has each list apart from the others, or those of both assertions in one memory.
func tripleRoomOf(x impl.Triple, joint bool) *tripleRoom {
	prog := progRoomOf(x.Prog, joint)
	if joint {
		r, three := threeIn(x.Pre, x.Post, impl.Asn{})
		return &tripleRoom{impl.Triple{Pre: three[0], Prog: prog.prog, Post: three[1]}, []*room{r}, prog}
	}
	pre, post := apartRoom(x.Pre), apartRoom(x.Post)
	return &tripleRoom{impl.Triple{Pre: pre.asn, Prog: prog.prog, Post: post.asn}, []*room{pre, post}, prog}
}

func (r *tripleRoom) touched() bool {
	return r.prog.touched() || slices.ContainsFunc(r.asns, (*room).touched)
}

// spoil writes over all of it.
func (r *tripleRoom) spoil() {
	for _, one := range r.asns {
		for _, m := range one.memory {
			for i := range m {
				m[i] = mark
			}
		}
	}
	for _, l := range r.prog.lists {
		for i := range l {
			l[i] = impl.Cmd{Kind: 99}
		}
	}
	for _, l := range r.prog.pairs {
		for i := range l {
			l[i] = mark
		}
	}
}

// knownTriples are right ones and wrong ones.
func knownTriples(t *testing.T) []impl.Triple {
	t.Helper()
	out := []impl.Triple{{Pre: fullAsn(5)}, {Post: fullAsn(6)}, {Pre: wrongAsns()[0], Prog: cmds{{}}, Post: wrongAsns()[30]}}
	for _, c := range tripleTexts {
		out = append(out, c.x.given())
	}
	for _, c := range provedTexts {
		pre, prog, post := proved(t, c.pre, c.prog, c.post)
		out = append(out, impl.Triple{Pre: pre, Prog: prog, Post: post})
	}
	for i, l := range wrongProgs() {
		if i%90 == 0 && i > 5 {
			out = append(out, impl.Triple{Prog: l})
		}
	}
	return out
}

// textRoom has spare bytes behind a text, which would make it another one.
func textRoom(text string) ([]byte, func() bool) {
	m := append([]byte(text), "emp\n\nemp\nholds\nfree a\n"...)
	before := slices.Clone(m)
	return m[:len(text)], func() bool { return !bytes.Equal(m, before) }
}

// fill writes over all of a text, and what is behind it.
func fill(b []byte) {
	all := b[:cap(b)]
	for i := range all {
		all[i] = '#'
	}
}

func TestTriplesAreLeftAsTheyAre(t *testing.T) {
	for _, x := range knownTriples(t) {
		for _, joint := range []bool{false, true} {
			r := tripleRoomOf(x, joint)
			ok, v, text := impl.TripleOk(r.triple), impl.Judge(r.triple), impl.TripleText(r.triple)
			both := impl.Joined([]impl.Triple{r.triple, r.triple})
			was, were := string(text), string(both)
			if r.touched() {
				t.Fatalf("something wrote into %s", describeTriple(x))
			}
			if ok != impl.TripleOk(x) || v != impl.Judge(x) || was != string(impl.TripleText(x)) || were != was+was {
				t.Fatalf("another answer about %s", describeTriple(x))
			}
			r.spoil()
			if string(text) != was || string(both) != were {
				t.Fatalf("the text of %s changed with it", describeTriple(x))
			}
			fill(text)
			if string(both) != were {
				t.Fatalf("two texts of %s share memory", describeTriple(x))
			}
		}
	}
}

// What is asked for in one memory is one assertion in both places.
func TestTriplesOfOneList(t *testing.T) {
	for _, text := range []string{"emp", "a=b", "a..nil", "a>b b..nil"} {
		r := jointRoom(mustRead(t, text))
		x := impl.Triple{Pre: r.asn, Post: r.asn}
		if got := string(impl.Joined([]impl.Triple{x, x})); got != strings.Repeat(text+"\n\n"+text+"\n", 2) || impl.Judge(x) != impl.VdHolds || r.touched() {
			t.Errorf("Joined of %q twice = %q", text, got)
		}
	}
}

// claimTriple asks that no two lists of one answer share memory.
func claimTriple(x impl.Triple) bool {
	s := slots{map[*impl.Cmd]bool{}, map[*impl.Pair]bool{}}
	free := s.claimProg(x.Prog)
	for _, l := range append(partsOf(x.Pre), partsOf(x.Post)...) {
		free = claim(s.pairs, l) && free
	}
	return free
}

func TestWhatIsReadAsATripleIsNewMemory(t *testing.T) {
	read := 0
	for _, y := range knownTriples(t) {
		want := string(impl.TripleText(y))
		text, touched := textRoom(want)
		x, ok := impl.TripleRead(text)
		again, _ := impl.TripleRead(text)
		if touched() {
			t.Fatalf("TripleRead wrote into %q", want)
		}
		if !ok {
			continue
		}
		read++
		fill(text)
		if !sameTriple(x, y) {
			t.Fatalf("TripleRead keeps its text: %q", want)
		}
		if !claimTriple(x) {
			t.Fatalf("two lists of what is read from %q share memory", want)
		}
		// What is written into one answer is not in the other one.
		for _, l := range append(partsOf(again.Pre), partsOf(again.Post)...) {
			for i := range l[:cap(l)] {
				l[:cap(l)][i] = mark
			}
		}
		for i := range again.Prog {
			again.Prog[i] = impl.Cmd{Kind: 99}
		}
		if !sameTriple(x, y) {
			t.Fatalf("two answers to %q share memory", want)
		}
	}
	if read < 40 {
		t.Fatalf("%d are read", read)
	}
}

func TestReportsLeaveTheirTexts(t *testing.T) {
	texts := []string{"", "\n", "x", "emp\n\nemp", "holds\nholds\n", "holds", "gave up\nunread\n", "emp\nfree a", strings.Repeat("emp\n\nemp\n", 5), strings.Repeat("x", 20000), strings.Repeat("x", 20001)}
	for _, c := range tripleTexts {
		texts = append(texts, c.text, c.text+c.text, strings.TrimSuffix(c.text, "\n"), c.text+"emp\n")
	}
	for _, s := range texts {
		text, touched := textRoom(s)
		report := impl.Report(text)
		count, all := impl.CountOf(text, impl.VdHolds), impl.AllHold(text)
		_, ok := impl.TripleRead(text)
		if touched() {
			t.Fatalf("something wrote into %q", s)
		}
		if want := reportBy(s); string(report) != want || count != countBy(s, impl.VdHolds) || all != allHoldBy(s) {
			t.Fatalf("%q: Report %q, CountOf %d, AllHold %v", s, report, count, all)
		}
		if _, can := readTripleBy(s); ok != can {
			t.Fatalf("TripleRead(%q): %v", s, ok)
		}
		fill(text)
		if string(report) != reportBy(s) {
			t.Fatalf("the report of %q changed with it", s)
		}
		other, left := textRoom(s)
		fill(impl.Report(other))
		if left() {
			t.Fatalf("the report of %q is in its memory", s)
		}
	}
}

func TestVerdictTextIsNewMemory(t *testing.T) {
	for v, word := range verdictTexts {
		fill(impl.VerdictText(v))
		x := impl.VerdictText(v)
		fill(impl.VerdictText(v))
		if string(x) != word || string(impl.VerdictText(v)) != word {
			t.Errorf("VerdictText(%d) = %q", v, x)
		}
	}
	fill(impl.Report([]byte("x")))
	if got := string(impl.Report([]byte("x\n"))); got != "unread\n" {
		t.Errorf("Report = %q", got)
	}
}

// What is behind a length would make it another one, or wrong.
func TestDeskStopsAtTheLength(t *testing.T) {
	m := []byte("emp\n\nemp\nfree a\nemp\nemp\n")
	if _, ok := impl.TripleRead(m[:9]); !ok {
		t.Error("TripleRead reads behind the length")
	}
	for _, n := range []int{0, 4, 5, 8, 10, 16, 20} {
		if _, ok := impl.TripleRead(m[:n]); ok {
			t.Errorf("TripleRead reads behind the length, %d", n)
		}
	}
	for n, want := range map[int]string{0: "", 3: "unread\n", 8: "holds\n", 9: "holds\n", 10: "holds\nunread\n", 16: "holds\nunread\n"} {
		if got := string(impl.Report(m[:n])); got != want {
			t.Errorf("Report of %d bytes = %q", n, got)
		}
	}
	report := []byte("holds\nholds\nfault")
	if n := impl.CountOf(report[:11], impl.VdHolds); n != 2 || impl.CountOf(report[:10], impl.VdHolds) != 1 || impl.CountOf(report[:12], impl.VdFault) != 0 || impl.CountOf(report[:0], impl.VdHolds) != 0 {
		t.Error("CountOf reads behind the length")
	}
	if !impl.AllHold(report[:12]) || !impl.AllHold(report[:11]) || !impl.AllHold(report[:0]) || impl.AllHold(report[:10]) || impl.AllHold(report[:13]) {
		t.Error("AllHold reads behind the length")
	}
	l := []impl.Triple{{}, {Prog: cmds{freeA}}, {Prog: cmds{{}}}, {Pre: fullAsn(5)}, {}, {}, {}, {}}
	before := slices.Clone(l)
	if got := string(impl.Joined(l[:2])); got != "emp\n\nemp\nemp\nfree a\nemp\n" {
		t.Errorf("Joined reads behind the length: %q", got)
	}
	if len(impl.Joined(l[:0])) != 0 || len(impl.Joined(l[:3])) != 0 {
		t.Error("Joined reads behind the length")
	}
	if !slices.EqualFunc(l, before, sameTriple) {
		t.Error("Joined wrote into its list")
	}
	p := append(cmds{freeA}, slices.Repeat(cmds{{Kind: -1}}, 30)...)
	q := pairs{{A: 1}, {A: 99, B: -1}}
	x := impl.Triple{Pre: impl.Asn{Cells: q[:1], Segs: q[1:1]}, Prog: p[:1], Post: impl.Asn{Eqs: q[:0], Nes: q[1:1]}}
	if got := string(impl.TripleText(x)); got != "a>nil\nfree a\nemp\n" || impl.Judge(x) != impl.VdHolds || !impl.TripleOk(x) {
		t.Errorf("TripleText reads behind the length: %q", got)
	}
}

func TestNoCallOfDeskPanics(t *testing.T) {
	someAsns := append(wrongAsns()[:30], impl.Asn{}, fullAsn(0), fullAsn(6), chain(6), allNames(), mustRead(t, "a!nil nil>nil nil..nil a..nil"))
	progs := slices.Concat(wrongProgs()[:40], endlessProgs(), drawnProgs(15), []cmds{nil, {}, oneOfEach()})
	for i, a := range someAsns {
		for j, l := range progs {
			x := impl.Triple{Pre: a, Prog: l, Post: someAsns[(i*7+j)%len(someAsns)]}
			y := impl.Triple{Pre: x.Post, Prog: l}
			impl.TripleOk(x)
			impl.Judge(x)
			impl.Judge(y)
			impl.Report(impl.Joined([]impl.Triple{{}, y}))
			impl.TripleRead(impl.TripleText(y))
			impl.Joined([]impl.Triple{y, x})
		}
	}
	for c := range 256 {
		for n := range 12 {
			b := slices.Repeat([]byte{byte(c)}, n)
			for _, text := range [][]byte{b, append([]byte("emp\n"), b...), append([]byte("emp\n\n"), b...), slices.Concat([]byte("emp\n"), b, []byte("\nemp\n"))} {
				impl.TripleRead(text)
				impl.Report(text)
				impl.AllHold(text)
				impl.CountOf(text, n-3)
			}
		}
	}
	for _, v := range append(slices.Clone(notVerdicts), math.MaxInt-1) {
		impl.VerdictText(v)
		impl.CountOf([]byte("holds"), v)
	}
	for _, w := range []string{"if ", "while ", "while a = b ( ", "if a = b { ", "while a = b ( emp ) { ", "{ ", "} ", "( ", ") ", "[", "]", "new ", ":= ", "\n", "emp\n", "emp\n\n"} {
		for n := range 3000 / len(w) / 7 {
			text := []byte("emp\n" + strings.Repeat(w, 7*n) + "\nemp\n")
			impl.TripleRead(text)
			impl.Report(text)
		}
		impl.Report([]byte(strings.Repeat(w, 20000/len(w))))
	}
}

// No function keeps anything: an answer is the same again, whatever was asked in between, and be it one that failed.
func TestNothingIsKeptOfDesk(t *testing.T) {
	last := triple{}
	drawnGiven(t, 1200, func(d *draw, x triple) {
		text, v := string(impl.TripleText(x.given())), impl.Judge(x.given())
		report := string(impl.Report([]byte(text)))
		holds := impl.CountOf([]byte(report), impl.VdHolds)
		impl.TripleRead([]byte("emp\nfree a\n"))
		impl.Report([]byte("emp\nfree a\nemp\nx"))
		impl.Judge(last.given())
		impl.Joined(givenOf([]triple{last, x, last}))
		impl.CountOf([]byte("holds\nfault"), 9)
		impl.AllHold([]byte("fault"))
		impl.VerdictText(-1)
		last = x
		if string(impl.TripleText(x.given())) != text || impl.Judge(x.given()) != v || string(impl.Report([]byte(text))) != report || impl.CountOf([]byte(report), impl.VdHolds) != holds {
			t.Fatalf("an answer about %s is another one", x.words())
		}
	})
}
