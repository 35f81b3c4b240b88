package tests

import (
	"strings"
	"testing"

	"loop.example/g00621/impl"
)

var verdictTexts = []string{"holds", "fault", "post", "invariant", "gave up"}

// verdictBy is empty for what is no verdict.
func verdictBy(v int) string {
	for i, word := range verdictTexts {
		if i == v {
			return word
		}
	}
	return ""
}

func (x triple) given() impl.Triple { return impl.Triple{Pre: x.pre, Prog: x.prog, Post: x.post} }

// text takes what is right.
func (x triple) text() string {
	return asnWord(x.pre) + "\n" + progWord(x.prog) + "\n" + asnWord(x.post) + "\n"
}

func sameTriple(x, y impl.Triple) bool {
	return sameAsn(x.Pre, y.Pre) && sameProg(x.Prog, y.Prog) && sameAsn(x.Post, y.Post)
}

func describeTriple(x impl.Triple) string {
	return describe(x.Pre) + " | " + describeProg(x.Prog) + " | " + describe(x.Post)
}

func tripleOkBy(x triple) bool { return roomBy(x.pre) && progOkBy(x.prog) && plainBy(x.post) }

// readTripleBy cuts at each byte 10, and asks two of the lines by their form alone.
func readTripleBy(text string) (triple, bool) {
	l := strings.Split(text, "\n")
	if len(text) > 3000 || len(l) != 4 || l[3] != "" || !isAsnText(l[0]) || !isAsnText(l[2]) {
		return triple{}, false
	}
	prog, ok := progBy(l[1])
	pre, _ := impl.AsnRead([]byte(l[0]))
	post, _ := impl.AsnRead([]byte(l[2]))
	if x := (triple{pre, prog, post}); ok && tripleOkBy(x) {
		return x, true
	}
	return triple{}, false
}

func linesBy(text string) []string {
	l := strings.Split(text, "\n")
	if l[len(l)-1] == "" {
		l = l[:len(l)-1]
	}
	return l
}

func wordOfThree(text string) string {
	x, ok := readTripleBy(text)
	if !ok {
		return "unread"
	}
	return verdictBy(verifyBy(x.pre, x.prog, x.post))
}

// reportBy goes on byte by byte, and counts those that are 10.
func reportBy(text string) string {
	if len(text) > 20000 {
		return ""
	}
	out, from, ends := "", 0, 0
	for i := range len(text) {
		if text[i] == '\n' {
			ends++
		}
		if ends == 3 {
			out += wordOfThree(text[from:i+1]) + "\n"
			from, ends = i+1, 0
		}
	}
	if from == len(text) {
		return out
	}
	return out + wordOfThree(strings.TrimSuffix(text[from:], "\n")+"\n") + "\n"
}

func countBy(report string, v int) int {
	word := verdictBy(v)
	if len(report) > 20000 || word == "" {
		return -1
	}
	n := 0
	for _, line := range linesBy(report) {
		if line == word {
			n++
		}
	}
	return n
}

func allHoldBy(report string) bool {
	for _, line := range linesBy(report) {
		if line != "holds" {
			return false
		}
	}
	return len(report) <= 20000
}

// checkTripleRead holds a text to the reader that is told apart; what is read has just that text.
func checkTripleRead(t *testing.T, text string) bool {
	t.Helper()
	want, can := readTripleBy(text)
	x, ok := impl.TripleRead([]byte(text))
	if ok != can || !sameTriple(x, want.given()) {
		t.Fatalf("TripleRead(%q) = %s, %v, not %s, %v", text, describeTriple(x), ok, describeTriple(want.given()), can)
	}
	if ok && (!impl.TripleOk(x) || string(impl.TripleText(x)) != text) {
		t.Fatalf("TripleRead(%q) = %s", text, describeTriple(x))
	}
	return ok
}

// checkNoTriple is asked of what is not TripleOk; its program need not be one that can be told whole.
func checkNoTriple(t *testing.T, name string, x impl.Triple) {
	t.Helper()
	if impl.TripleOk(x) {
		t.Errorf("TripleOk of %s", name)
	}
	if text := impl.TripleText(x); len(text) != 0 {
		t.Errorf("TripleText of %s = %q", name, text)
	}
	if v := impl.Judge(x); v != -1 {
		t.Errorf("Judge of %s = %d", name, v)
	}
	good := impl.Triple{}
	for _, l := range [][]impl.Triple{{x}, {x, good}, {good, x}, {good, x, good}, {good, good, good, good, good, x}} {
		if text := impl.Joined(l); len(text) != 0 {
			t.Errorf("Joined with %s = %q", name, text)
		}
	}
}

// checkTriple holds every answer about one to what is told apart from the program.
func checkTriple(t *testing.T, x triple) int {
	t.Helper()
	if !tripleOkBy(x) {
		checkNoTriple(t, x.words(), x.given())
		return -1
	}
	text, v := x.text(), verifyBy(x.pre, x.prog, x.post)
	if !impl.TripleOk(x.given()) || string(impl.TripleText(x.given())) != text || impl.Judge(x.given()) != v {
		t.Fatalf("%s: TripleOk %v, TripleText %q, Judge %d", x.words(), impl.TripleOk(x.given()), impl.TripleText(x.given()), impl.Judge(x.given()))
	}
	if back, ok := impl.TripleRead([]byte(text)); !ok || !sameTriple(back, x.given()) {
		t.Fatalf("TripleRead(%q) = %s, %v", text, describeTriple(back), ok)
	}
	if got := string(impl.Joined([]impl.Triple{x.given()})); got != text {
		t.Fatalf("Joined of %s = %q", x.words(), got)
	}
	if got := string(impl.Report([]byte(text))); got != verdictBy(v)+"\n" {
		t.Fatalf("Report(%q) = %q", text, got)
	}
	return v
}

func checkReport(t *testing.T, text string) string {
	t.Helper()
	got := string(impl.Report([]byte(text)))
	if want := reportBy(text); got != want {
		t.Fatalf("Report(%q) = %q, not %q", text, got, want)
	}
	return got
}

func checkCounts(t *testing.T, report string) {
	t.Helper()
	for v := -2; v < 8; v++ {
		if n := impl.CountOf([]byte(report), v); n != countBy(report, v) {
			t.Fatalf("CountOf(%q, %d) = %d, not %d", report, v, n, countBy(report, v))
		}
	}
	if all := impl.AllHold([]byte(report)); all != allHoldBy(report) {
		t.Fatalf("AllHold(%q) = %v", report, all)
	}
}

// drawnGiven hands out drawn triples of all kinds: proved ones, changed ones, ones that tell of names, and ones that are not right.
func drawnGiven(t *testing.T, n int, do func(d *draw, x triple)) {
	t.Helper()
	drawnTriples(t, n/2, do)
	drawnWants(n/6, func(d *draw, l cmds) {
		pre, states, v := impl.Infer(l)
		if v == impl.VdHolds {
			do(d, triple{pre, l, states[0]})
		}
	})
	progs := drawnProgs(n / 3)
	d := draw(21)
	for _, l := range progs {
		x := triple{d.asn(), l, d.asn()}
		if d.below(4) > 0 {
			x.post = mapped(x.post, func(t int) int { return t % (impl.Vars + 1) })
		}
		if d.below(4) > 0 {
			x.pre.Eqs = x.pre.Eqs[:min(len(x.pre.Eqs), impl.MaxPure-len(x.pre.Segs))]
			x.pre.Nes = x.pre.Nes[:min(len(x.pre.Nes), impl.MaxPure-len(x.pre.Segs))]
		}
		do(&d, x)
	}
}
