package tests

import (
	"bytes"
	"slices"
	"strings"
	"testing"

	"loop.example/g00621/impl"
)

// wordsLeft is a reader told apart from the program's: it refuses at the first wrong word.
type wordsLeft struct {
	left []string
	bad  bool
}

func (w *wordsLeft) take() string {
	if len(w.left) == 0 {
		w.bad = true
		return ""
	}
	out := w.left[0]
	w.left = w.left[1:]
	return out
}

func (w *wordsLeft) want(is string) { w.bad = w.take() != is || w.bad }

func (w *wordsLeft) valueOf(word string) int {
	i := slices.Index([]string{"nil", "a", "b", "c", "d", "e"}, word)
	w.bad = w.bad || i < 0
	return max(i, 0)
}

func (w *wordsLeft) sign() bool {
	s := w.take()
	w.bad = w.bad || s != "=" && s != "!"
	return s == "="
}

func (w *wordsLeft) inv() impl.Asn {
	w.want("(")
	i := slices.Index(w.left, ")")
	if i < 0 {
		w.bad = true
		return impl.Asn{}
	}
	a, ok := impl.AsnRead([]byte(strings.Join(w.left[:i], " ")))
	w.bad = w.bad || !ok
	w.left = w.left[i+1:]
	return a
}

func (w *wordsLeft) block(deep int) cmds {
	w.want("{")
	l := w.list(deep)
	w.want("}")
	return l
}

func inBrackets(w string) bool {
	return len(w) > 2 && strings.HasPrefix(w, "[") && strings.HasSuffix(w, "]")
}

func (w *wordsLeft) list(deep int) cmds {
	var l cmds
	for !w.bad && len(w.left) > 0 && w.left[0] != "}" {
		var c impl.Cmd
		switch first := w.take(); first {
		case "new", "free":
			c = impl.Cmd{Kind: map[string]int{"new": 3, "free": 4}[first], X: w.valueOf(w.take())}
		case "if", "while":
			c = impl.Cmd{Kind: 5, X: w.valueOf(w.take()), Eq: w.sign(), Y: w.valueOf(w.take())}
			if first == "while" {
				c.Kind, c.Inv = 6, w.inv()
			}
			c.A = w.block(deep + 1)
			if first == "if" {
				c.B = w.block(deep + 1)
			}
		default:
			w.want(":=")
			last := w.take()
			switch {
			case inBrackets(first):
				c = impl.Cmd{Kind: 2, X: w.valueOf(first[1 : len(first)-1]), Y: w.valueOf(last)}
			case inBrackets(last):
				c = impl.Cmd{Kind: 1, X: w.valueOf(first), Y: w.valueOf(last[1 : len(last)-1])}
			default:
				c = impl.Cmd{Kind: 0, X: w.valueOf(first), Y: w.valueOf(last)}
			}
		}
		l = append(l, c)
	}
	return l
}

func readProgBy(text string) (cmds, bool) {
	if len(text) > 2000 {
		return nil, false
	}
	return progBy(text)
}

// progBy takes a text of any length.
func progBy(text string) (cmds, bool) {
	if text == "" {
		return nil, true
	}
	w := wordsLeft{left: strings.Split(text, " ")}
	l := w.list(0)
	if w.bad || len(w.left) > 0 || !progOkBy(l) {
		return nil, false
	}
	return l, true
}

// checkProgRead holds a text to the reader that is told apart; what is read has just that text.
func checkProgRead(t *testing.T, text string) bool {
	t.Helper()
	want, can := readProgBy(text)
	l, ok := impl.ProgRead([]byte(text))
	if ok != can || !sameProg(l, want) {
		t.Fatalf("ProgRead(%q) = %s, %v, not %s, %v", text, describeProg(l), ok, describeProg(want), can)
	}
	if ok && (!impl.ProgOk(l) || string(impl.ProgText(l)) != text || progWord(l) != text) {
		t.Fatalf("ProgRead(%q) = %s", text, describeProg(l))
	}
	return ok
}

var progTexts = []struct {
	text string
	l    cmds
}{
	{"", nil},
	{"a := b", cmds{{Kind: 0, X: 1, Y: 2}}},
	{"e := nil", cmds{{Kind: 0, X: 5}}},
	{"a := a", cmds{{Kind: 0, X: 1, Y: 1}}},
	{"c := [d]", cmds{{Kind: 1, X: 3, Y: 4}}},
	{"[c] := d", cmds{{Kind: 2, X: 3, Y: 4}}},
	{"[c] := nil", cmds{{Kind: 2, X: 3}}},
	{"new e", cmds{{Kind: 3, X: 5}}},
	{"free b", cmds{{Kind: 4, X: 2}}},
	{"if a = b { } { }", cmds{{Kind: 5, X: 1, Y: 2, Eq: true}}},
	{"if a ! nil { } { }", cmds{{Kind: 5, X: 1}}},
	{"if nil = nil { } { }", cmds{{Kind: 5, Eq: true}}},
	{"if nil ! e { free a } { }", cmds{{Kind: 5, Y: 5, A: cmds{{Kind: 4, X: 1}}}}},
	{"if a = b { } { free a }", cmds{{Kind: 5, X: 1, Y: 2, Eq: true, B: cmds{{Kind: 4, X: 1}}}}},
	{"if a = b { new a free a } { a := nil a := [a] }", cmds{{Kind: 5, X: 1, Y: 2, Eq: true, A: cmds{{Kind: 3, X: 1}, {Kind: 4, X: 1}}, B: cmds{{Kind: 0, X: 1}, {Kind: 1, X: 1, Y: 1}}}}},
	{"while a = b ( emp ) { }", cmds{{Kind: 6, X: 1, Y: 2, Eq: true}}},
	{"while nil ! nil ( emp ) { }", cmds{{Kind: 6}}},
	{"while a ! nil ( a=b c!nil a>b c..nil ) { a := [a] }", cmds{{Kind: 6, X: 1, Inv: impl.Asn{Eqs: pairs{{A: 1, B: 2}}, Nes: pairs{{A: 3, B: 0}}, Cells: pairs{{A: 1, B: 2}}, Segs: pairs{{A: 3, B: 0}}}, A: cmds{{Kind: 1, X: 1, Y: 1}}}}},
	{"while a = nil ( nil..nil nil..nil nil..nil ) { }", cmds{{Kind: 6, X: 1, Eq: true, Inv: impl.Asn{Segs: repeated(impl.Pair{}, 3)}}}},
	{"free a new a", cmds{{Kind: 4, X: 1}, {Kind: 3, X: 1}}},
	{"while a = b ( emp ) { if a = b { while a = b ( emp ) { free a } } { } } free b", cmds{
		{Kind: 6, X: 1, Y: 2, Eq: true, A: cmds{{Kind: 5, X: 1, Y: 2, Eq: true, A: cmds{{Kind: 6, X: 1, Y: 2, Eq: true, A: cmds{{Kind: 4, X: 1}}}}}}},
		{Kind: 4, X: 2},
	}},
}

func TestProgTextKnownOnes(t *testing.T) {
	for _, c := range progTexts {
		if got := string(impl.ProgText(c.l)); got != c.text {
			t.Errorf("ProgText(%s) = %q, not %q", describeProg(c.l), got, c.text)
		}
		if l, ok := impl.ProgRead([]byte(c.text)); !ok || !sameProg(l, c.l) {
			t.Errorf("ProgRead(%q) = %s, %v", c.text, describeProg(l), ok)
		}
		checkProgRead(t, c.text)
	}
	if l, ok := impl.ProgRead(nil); !ok || len(l) != 0 {
		t.Errorf("ProgRead(nil) = %v, %v", l, ok)
	}
}

// Each plain command with every variable and value, and each guard.
func TestProgTextOfEveryTerm(t *testing.T) {
	for kind := range 7 {
		for x := range impl.Terms {
			for y := range impl.Terms {
				for _, eq := range []bool{false, true} {
					l := cmds{{Kind: kind, X: x, Y: y, Eq: eq}}
					if !progOkBy(l) {
						if len(impl.ProgText(l)) != 0 {
							t.Errorf("ProgText(%s) = %q", describeProg(l), impl.ProgText(l))
						}
						// Written all the same, it is not read.
						if text := progWord(l); !(kind < impl.CmIf && eq || (kind == impl.CmNew || kind == impl.CmFree) && y > 0) && checkProgRead(t, text) {
							t.Errorf("ProgRead(%q)", text)
						}
						continue
					}
					back, ok := impl.ProgRead([]byte(progWord(l)))
					if string(impl.ProgText(l)) != progWord(l) || !ok || !sameProg(back, l) {
						t.Errorf("%s: %q, %s, %v", describeProg(l), impl.ProgText(l), describeProg(back), ok)
					}
				}
			}
		}
	}
}

func TestProgReadRefuses(t *testing.T) {
	for _, text := range []string{
		// A blank too many, too few, or another one.
		" ", "  ", " free a", "free a ", "free  a", "freea", "free\ta", "free a\n", "\nfree a", "free a  new b", "free anew b", "a:= b", "a :=b", "a:=b", "a :=  b", "free\x00a", "free\u00a0a",
		"if a = b {} { }", "if a = b { } {}", "if a = b {  } { }", "if a = b { }{ }", "if a=b { } { }", "if a = b { free a} { }", "if a = b {free a } { }",
		"while a = b (emp) { }", "while a = b ( emp) { }", "while a = b (emp ) { }", "while a = b ( emp ){ }", "while a = b ( a=b  a!b ) { }", "while a = b (  emp ) { }", "while a = b ( emp  ) { }",
		"[ a ] := b", "[a ] := b", "[ a] := b", "a := [ b ]", "a := [b ]",
		// A brace or a bracket too many, too few, or another one.
		"}", "{", "{ }", "{ free a }", "( )", "( emp )", "free a }", "{ free a", "} free a", "free a {",
		"if a = b { }", "if a = b", "if a = b {", "if a = b { } {", "if a = b } { }", "if a = b { } }", "if a = b { } { } }", "if a = b { } { } { }", "if a = b { { } } { }", "if a = b { { free a } { }", "if a = b ( ) { }", "if a = b { ) { }", "if a = b free a { }", "if a = b { free a } free b",
		"while a = b ( emp ) {", "while a = b ( emp ) }", "while a = b ( emp )", "while a = b ( emp", "while a = b ( emp { }", "while a = b emp ) { }", "while a = b emp { }", "while a = b { }", "while a = b ( ) { }", "while a = b ) emp ( { }", "while a = b ( emp ) ) { }", "while a = b ( ( emp ) ) { }", "while a = b ( ( emp ) { }", "while a = b ( emp ) { } }", "while a = b ( emp ) { } { }", "while a = b { emp } { }", "while a = b { } ( emp )", "while a = b ( emp ) ( )",
		"if a = b ( emp ) { } { }",
		"[a := b", "a] := b", "[[a]] := b", "[] := b", "a := []", "a := [[b]]", "a := [b", "a := b]", "[a] := [b]", "[ := b", "] := b", "a := [", "a := ]", "a := ][", "][ := a", "(a) := b", "{a} := b",
		// A word that is none, one too few, one too many.
		"new", "free", "new new", "free free a", "new a b", "free a b", "a", "a b", "a :=", "a := ", ":= a", ":=", ":= := :=", "a := := b", "a := b c", "a a := b", "a = b", "a == b", "a =: b", "a : = b", "a != b",
		"if", "if a", "if a =", "if = a b { } { }", "if a b { } { }", "if a == b { } { }", "if a != b { } { }", "if a > b { } { }", "if a .. b { } { }", "if a := b { } { }", "if a = { } { }", "if = b { } { }", "if a ! ! { } { }", "if a = b = c { } { }",
		"while", "while a", "while a =", "while a = b", "while a ( emp ) { }", "while = ( emp ) { }", "while a := b ( emp ) { }",
		"If a = b { } { }", "WHILE a = b ( emp ) { }", "New a", "FREE a", "else", "if a = b { } else { }", "skip", "emp", "nil", "delete a", "newa", "free free", "new free", "new nil", "free nil", "new 1", "free _1", "new [a]", "free [a]", "new f", "free f", "new A", "free A", "new `",
		// Values where variables are asked, names, and what is no term.
		"nil := a", "nil := nil", "[nil] := a", "[nil] := nil", "a := [nil]", "nil := [a]", "_1 := a", "a := _1", "[_1] := a", "[a] := _1", "_1 := [a]", "a := [_1]", "f := a", "a := f", "[f] := a", "a := [f]", "aa := b", "a := bb", "a := Nil", "a := NIL", "a := 0", "a := ",
		"if _1 = a { } { }", "if a = _10 { } { }", "while _1 = a ( emp ) { }", "while a ! _10 ( emp ) { }", "if f = a { } { }", "while a = f ( emp ) { }", "if [a] = b { } { }", "while a = [b] ( emp ) { }",
		// Inv that is no assertion, not Plain, too many, or out of order.
		"while a = b ( x ) { }", "while a = b ( a ) { }", "while a = b ( a = b ) { }", "while a = b ( a=b emp ) { }", "while a = b ( emp emp ) { }", "while a = b ( a=_1 ) { }", "while a = b ( _1..nil ) { }", "while a = b ( a!b a=b ) { }", "while a = b ( a..b a>b ) { }", "while a = b ( a>b a=b ) { }",
		"while a = b ( a=a a=a a=a a=a a=a ) { }", "while a = b ( a!b a!b a!b a!b a!b ) { }", "while a = b ( a>a a>a a>a a>a ) { }", "while a = b ( a..a a..a a..a a..a ) { }", "while a = b ( a>a a>a a..a a..a ) { }", "while a = b ( free a ) { }", "while a = b ( { } ) { }",
	} {
		if l, ok := impl.ProgRead([]byte(text)); ok || len(l) != 0 {
			t.Errorf("ProgRead(%q) = %s, %v", text, describeProg(l), ok)
		}
		// Nor is it inside of others, or beside them.
		for _, in := range []string{"new a " + text, text + " new a", "if a = b { " + text + " } { }", "while a = b ( emp ) { " + text + " }"} {
			checkProgRead(t, in)
		}
	}
}

// Too deep, or too many: written rightly, and yet no program.
func TestProgReadAsksForProgOk(t *testing.T) {
	for _, put := range wraps {
		for n := range 8 {
			l := nested(n, cmds{freeA}, put)
			if ok := checkProgRead(t, progWord(l)); ok != (n <= 3) {
				t.Errorf("ProgRead of what is %d deep: %v", n, ok)
			}
		}
		for n := range 24 {
			l := cmds{put(slices.Repeat(cmds{freeA}, n))}
			if ok := checkProgRead(t, progWord(l)); ok != (n < 20) {
				t.Errorf("ProgRead of %d: %v", n+1, ok)
			}
		}
	}
	for n := range 250 {
		text := strings.TrimSuffix(strings.Repeat("free a ", n), " ")
		if ok := checkProgRead(t, text); ok != (n <= 20) {
			t.Errorf("ProgRead of %d: %v", n, ok)
		}
	}
}

// longProg has a text of just n bytes, from 2000 to 2299: loops with all that Inv takes, in which nil and a stand.
func longProg(t *testing.T, n int) cmds {
	t.Helper()
	var l cmds
	for range impl.MaxCmds {
		l = append(l, impl.Cmd{Kind: impl.CmWhile, Inv: impl.Asn{Eqs: repeated(impl.Pair{}, 4), Nes: repeated(impl.Pair{}, 4), Segs: repeated(impl.Pair{}, 3)}})
	}
	long := len(progWord(l)) - n
	if long%2 == 1 {
		l[0].Inv.Segs = l[0].Inv.Segs[:2]
		long -= len("nil..nil ")
	}
	for i := range l {
		for _, list := range listsOf(l[i].Inv) {
			for k := range list {
				if long > 0 {
					list[k].A = 1
					long -= len("nil") - len("a")
				}
			}
		}
	}
	if len(progWord(l)) != n || !progOkBy(l) {
		t.Fatalf("no program of %d bytes", n)
	}
	return l
}

func TestProgReadOfJust2000(t *testing.T) {
	for _, n := range []int{1990, 1998, 1999, 2000, 2001, 2002, 2003, 2100, 2299} {
		l := longProg(t, n)
		text := impl.ProgText(l)
		if string(text) != progWord(l) {
			t.Errorf("ProgText of %d bytes", n)
		}
		back, ok := impl.ProgRead(text)
		if ok != (n <= 2000) || ok && !sameProg(back, l) || !ok && len(back) != 0 {
			t.Errorf("ProgRead of %d bytes: %v", n, ok)
		}
		checkProgRead(t, string(text))
	}
	for _, n := range []int{2001, 5000, 200000} {
		for _, fill := range []string{" ", "free a ", "{ ", "if a = b { ", "while ", "("} {
			if l, ok := impl.ProgRead([]byte(strings.Repeat(fill, n)[:n])); ok || len(l) != 0 {
				t.Errorf("ProgRead of %d bytes of %q", n, fill)
			}
		}
	}
}

// Promise 6: programs come back from their text.
func TestProgramsComeBack(t *testing.T) {
	for _, l := range append(drawnProgs(4000), oneOfEach()) {
		text := impl.ProgText(l)
		if string(text) != progWord(l) {
			t.Fatalf("ProgText(%s) = %q", describeProg(l), text)
		}
		back, ok := impl.ProgRead(text)
		if ok != (len(text) <= 2000) || ok && !sameProg(back, l) {
			t.Fatalf("ProgRead(%q) = %s, %v", text, describeProg(back), ok)
		}
		checkProgRead(t, string(text))
	}
}

// bentText has some words gone, doubled, changed or put elsewhere, or some bytes.
func (d *draw) bentText(text string) string {
	others := []string{"{", "}", "(", ")", ":=", "=", "!", "if", "while", "new", "free", "nil", "a", "b", "e", "f", "_1", "[a]", "[b]", "[nil]", "emp", "a=b", "a..nil", "a!b", "", "["}
	for range 1 + d.below(2) {
		words := strings.Split(text, " ")
		i, j := d.below(len(words)), d.below(len(words))
		switch d.below(6) {
		case 0:
			words = slices.Delete(words, i, i+1)
		case 1:
			words = slices.Insert(words, i, words[j])
		case 2:
			words[i] = others[d.below(len(others))]
		case 3:
			words[i], words[j] = words[j], words[i]
		case 4:
			words = slices.Insert(words, i, others[d.below(len(others))])
		default:
			b := []byte(text)
			if len(b) > 0 {
				signs := " abe=!{}()[]:n\x00\xff"
				b[d.below(len(b))] = signs[d.below(len(signs))]
			}
			words = strings.Split(string(b), " ")
		}
		text = strings.Join(words, " ")
	}
	return text
}

// Promise 6: whatever text is read as a program is just its.
func TestWhatIsReadIsItsText(t *testing.T) {
	d := draw(10)
	yes, no := 0, 0
	for _, l := range drawnProgs(3000) {
		for range 8 {
			if checkProgRead(t, d.bentText(progWord(l))) {
				yes++
			} else {
				no++
			}
		}
	}
	if min(yes, no) < 2000 {
		t.Fatalf("%d are read, %d are not", yes, no)
	}
}

// Every byte of a text gone, and every byte in its place or ahead of it.
func TestProgReadByteByByte(t *testing.T) {
	for _, text := range []string{"new a [a] := b b := [a]", "if a = nil { free a } { }", "while b ! nil ( b..nil ) { b := nil }"} {
		for i := range len(text) + 1 {
			if i < len(text) {
				checkProgRead(t, text[:i]+text[i+1:])
			}
			checkProgRead(t, text[:i])
			checkProgRead(t, text[i:])
			for c := range 256 {
				checkProgRead(t, text[:i]+string([]byte{byte(c)})+text[i:])
				if i < len(text) {
					checkProgRead(t, text[:i]+string([]byte{byte(c)})+text[i+1:])
				}
			}
		}
	}
}

// All texts of a few words.
func TestProgReadOfFewWords(t *testing.T) {
	words := []string{"a", "nil", "[b]", ":=", "new", "free", "}", ""}
	yes := 0
	for n := 1; n <= 5; n++ {
		count := 1
		for range n {
			count *= len(words)
		}
		for i := range count {
			var l []string
			for range n {
				l = append(l, words[i%len(words)])
				i /= len(words)
			}
			if checkProgRead(t, strings.Join(l, " ")) {
				yes++
			}
		}
	}
	// None; five of three words, two of two; two of these two; one of each, either way about.
	if yes != 1+5+2+4+2*2*5 {
		t.Errorf("%d are read", yes)
	}
}

func TestProgTextIsWords(t *testing.T) {
	for _, l := range drawnProgs(500) {
		text := impl.ProgText(l)
		if len(l) > 0 && (bytes.Contains(text, []byte("  ")) || bytes.HasPrefix(text, []byte(" ")) || bytes.HasSuffix(text, []byte(" "))) {
			t.Fatalf("ProgText(%s) = %q", describeProg(l), text)
		}
	}
}
