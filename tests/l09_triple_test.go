package tests

import (
	"slices"
	"strings"
	"testing"

	"loop.example/g00621/impl"
)

// sevenNew are more cells than there is room for.
const sevenNew = "new a new a new a new a new a new a new a"

// tripleTexts are made by hand, so that no reader is asked.
var tripleTexts = []struct {
	x       triple
	text    string
	verdict int
}{
	{triple{}, "emp\n\nemp\n", impl.VdHolds},
	{triple{pre: impl.Asn{Cells: pairs{{A: 1}}}}, "a>nil\n\nemp\n", impl.VdPost},
	{triple{prog: cmds{freeA}}, "emp\nfree a\nemp\n", impl.VdFault},
	{triple{post: impl.Asn{Eqs: pairs{{A: 1, B: 1}}}}, "emp\n\na=a\n", impl.VdHolds},
	{triple{impl.Asn{Cells: pairs{{A: 1}}}, cmds{freeA}, impl.Asn{}}, "a>nil\nfree a\nemp\n", impl.VdHolds},
	{triple{impl.Asn{Segs: pairs{{A: 1}}}, cmds{{Kind: impl.CmNew, X: 2}, {Kind: impl.CmStore, X: 2, Y: 1}}, impl.Asn{Segs: pairs{{A: 2}}}}, "a..nil\nnew b [b] := a\nb..nil\n", impl.VdHolds},
	{triple{impl.Asn{Cells: pairs{{A: 1, B: 6}}, Segs: pairs{{A: 6}}}, cmds{{Kind: impl.CmLoad, X: 2, Y: 1}}, impl.Asn{Cells: pairs{{A: 1, B: 2}}, Segs: pairs{{A: 2}}}}, "a>_1 _1..nil\nb := [a]\na>b b..nil\n", impl.VdHolds},
	{triple{impl.Asn{Nes: pairs{{A: 15, B: 15}}}, nil, impl.Asn{Cells: pairs{{A: 4, B: 5}}}}, "_10!_10\n\nd>e\n", impl.VdHolds},
	{triple{impl.Asn{Segs: pairs{{A: 1, B: 2}}}, cmds{{Kind: impl.CmWhile, X: 1, Inv: impl.Asn{Segs: pairs{{A: 1}}}}}, impl.Asn{}}, "a..b\nwhile a ! nil ( a..nil ) { }\nemp\n", impl.VdInv},
	{triple{prog: slices.Repeat(cmds{{Kind: impl.CmNew, X: 1}}, 7)}, "emp\n" + sevenNew + "\nemp\n", impl.VdGave},
	{triple{prog: cmds{{Kind: impl.CmIf, X: 1, Y: 2, Eq: true, B: cmds{freeA}}}}, "emp\nif a = b { } { free a }\nemp\n", impl.VdFault},
	{triple{impl.Asn{Eqs: pairs{{A: 3, B: 2}}, Nes: pairs{{A: 4, B: 3}}, Cells: pairs{{A: 2, B: 4}}}, nil, impl.Asn{Nes: pairs{{A: 2, B: 4}}, Cells: pairs{{A: 3, B: 4}}}}, "c=b d!c b>d\n\nb!d c>d\n", impl.VdHolds},
}

func TestTripleTextKnownOnes(t *testing.T) {
	for _, c := range tripleTexts {
		x := c.x.given()
		if got := string(impl.TripleText(x)); got != c.text {
			t.Errorf("TripleText(%s) = %q, not %q", c.x.words(), got, c.text)
		}
		if back, ok := impl.TripleRead([]byte(c.text)); !ok || !sameTriple(back, x) {
			t.Errorf("TripleRead(%q) = %s, %v", c.text, describeTriple(back), ok)
		}
		if v := impl.Judge(x); v != c.verdict {
			t.Errorf("Judge(%s) = %d, not %d", c.x.words(), v, c.verdict)
		}
		checkTriple(t, c.x)
	}
}

// Room is asked ahead of the program alone: at just the limit, and one more.
func TestTripleOkAsksForRoom(t *testing.T) {
	same, other, seg := impl.Pair{A: 1, B: 1}, impl.Pair{A: 1}, impl.Pair{A: 1, B: 1}
	for _, c := range []struct {
		a    impl.Asn
		room bool
	}{
		{impl.Asn{Eqs: repeated(same, 12), Nes: repeated(other, 12), Cells: repeated(other, 6)}, true},
		{impl.Asn{Eqs: repeated(same, 13)}, false},
		{impl.Asn{Nes: repeated(other, 13)}, false},
		{impl.Asn{Cells: repeated(other, 7)}, false},
		{impl.Asn{Segs: repeated(seg, 7)}, false},
		{impl.Asn{Eqs: repeated(same, 11), Segs: repeated(seg, 1)}, true},
		{impl.Asn{Eqs: repeated(same, 12), Segs: repeated(seg, 1)}, false},
		{impl.Asn{Nes: repeated(other, 11), Segs: repeated(seg, 1)}, true},
		{impl.Asn{Nes: repeated(other, 12), Segs: repeated(seg, 1)}, false},
		{impl.Asn{Eqs: repeated(same, 6), Nes: repeated(other, 6), Segs: repeated(seg, 6)}, true},
		{impl.Asn{Eqs: repeated(same, 7), Nes: repeated(other, 6), Segs: repeated(seg, 6)}, false},
		{impl.Asn{Eqs: repeated(same, 6), Nes: repeated(other, 7), Segs: repeated(seg, 6)}, false},
		{impl.Asn{Eqs: repeated(same, 9), Nes: repeated(other, 9), Cells: repeated(other, 3), Segs: repeated(seg, 3)}, true},
	} {
		if roomBy(c.a) != c.room {
			t.Fatalf("room for %s", describe(c.a))
		}
		for _, x := range []triple{{pre: c.a}, {pre: c.a, prog: cmds{freeA}}, {pre: c.a, post: c.a}} {
			if !impl.AsnOk(c.a) {
				checkNoTriple(t, describe(c.a), x.given())
				continue
			}
			if v := checkTriple(t, x); (v >= 0) != c.room {
				t.Errorf("Judge(%s) = %d", x.words(), v)
			}
			// Behind it no room is asked.
			if v := checkTriple(t, triple{prog: x.prog, post: c.a}); v < 0 {
				t.Errorf("Judge with %s behind = %d", asnWord(c.a), v)
			}
		}
	}
	for _, text := range []string{"a!nil a..nil", "a!nil b!nil a..nil b..nil", "a!nil a..b b..c c..d d..e e..nil", "_1!nil _1..nil"} {
		right, without := noRoom(t, text)
		if v := checkTriple(t, triple{pre: right}); v < 0 {
			t.Errorf("Judge with %s ahead = %d", asnWord(right), v)
		}
		for _, bad := range without {
			if v := checkTriple(t, triple{pre: bad}); v >= 0 {
				t.Errorf("Judge with %s ahead = %d", asnWord(bad), v)
			}
		}
	}
}

// Names may be ahead, but not behind: one at each place there is.
func TestTripleOkAsksForPlain(t *testing.T) {
	for k := range kinds {
		for side := range 2 {
			for term := range impl.Terms {
				l := [kinds]pairs{repeated(impl.Pair{A: 1, B: 1}, 1), {{A: 2, B: 2}}, {{A: 3, B: 3}}, {{A: 4, B: 4}}}
				if side == 0 {
					l[k][0].A = term
				} else {
					l[k][0].B = term
				}
				a := asnOf(l)
				if v := checkTriple(t, triple{pre: a}); v < 0 {
					t.Errorf("Judge with %s ahead = %d", asnWord(a), v)
				}
				if v := checkTriple(t, triple{post: a}); (v >= 0) != (term <= impl.Vars) {
					t.Errorf("Judge with %s behind = %d", asnWord(a), v)
				}
			}
		}
	}
}

func TestTripleOkAsksItsProgram(t *testing.T) {
	for _, pre := range []impl.Asn{{}, mustRead(t, "a>nil"), mustRead(t, "_1..nil")} {
		for _, l := range slices.Concat(wrongProgs(), endlessProgs()) {
			checkNoTriple(t, "a wrong program", impl.Triple{Pre: pre, Prog: l})
			checkNoTriple(t, "a wrong program", impl.Triple{Pre: pre, Prog: l, Post: pre})
		}
	}
	for _, put := range wraps {
		for n := range 6 {
			if v := checkTriple(t, triple{prog: nested(n, cmds{freeA}, put)}); (v >= 0) != (n <= 3) {
				t.Errorf("Judge of what is %d deep: %d", n, v)
			}
		}
		for n := 17; n < 23; n++ {
			if v := checkTriple(t, triple{prog: cmds{put(slices.Repeat(cmds{freeA}, n))}}); (v >= 0) != (n < 20) {
				t.Errorf("Judge of %d commands: %d", n+1, v)
			}
		}
	}
}

func TestTripleOkAsksItsAssertions(t *testing.T) {
	good := mustRead(t, "a>nil")
	for _, bad := range wrongAsns() {
		for _, l := range []cmds{nil, {freeA}, mustProg(t, "while a = b ( emp ) { }")} {
			checkNoTriple(t, describe(bad), impl.Triple{Pre: bad, Prog: l, Post: good})
			checkNoTriple(t, describe(bad), impl.Triple{Pre: good, Prog: l, Post: bad})
			checkNoTriple(t, describe(bad), impl.Triple{Pre: bad, Prog: l, Post: bad})
		}
		checkNoTriple(t, describe(bad), impl.Triple{Pre: bad, Prog: wrongProgs()[0], Post: bad})
	}
}

// refusesTriple asks for the one answer to what is no triple's text.
func refusesTriple(t *testing.T, text string) {
	t.Helper()
	if x, ok := impl.TripleRead([]byte(text)); ok || !sameTriple(x, impl.Triple{}) {
		t.Errorf("TripleRead(%q) = %s, %v", text, describeTriple(x), ok)
	}
	checkTripleRead(t, text)
}

func TestTripleReadRefuses(t *testing.T) {
	for _, text := range []string{
		// Bytes 10: none, too few, too many, other ones.
		"", "\n", "\n\n", "\n\n\n", "\n\n\n\n", "emp", "emp\n", "emp\n\n", "emp\n\nemp", "emp\nemp\n", "emp\nemp", "\nemp\n", "\nemp", "emp\n\n\n", "\n\nemp\n", "emp\n\nemp\n\n", "\nemp\n\nemp\n", "\n\nemp\n\nemp\n",
		"emp\n\n\nemp\n", "emp\n\nemp\nemp\n", "emp\n\nemp\nemp", "emp\n\nemp\n ", "emp\n\nemp\nx", "emp\n\nemp\nx\n", "emp\nfree a\nfree a\nemp\n", "emp\nfree a\nemp\nfree a\n", "emp\n\nemp\nemp\n\nemp\n",
		"emp\r\n\r\nemp\r\n", "emp\r\remp\r", "emp\n\remp\n", "emp\x00\x00emp\x00", "emp\n\nemp\n\x00", "emp;;emp;", "emp\\n\\nemp\\n", "emp\v\vemp\v", "emp\u2028\u2028emp\u2028", "emp  emp ", "emp emp", "empemp",
		"emp\nfree a\nnew b\nemp\n", "emp\nfree a \nemp\n", "emp\nfree\na\nemp\n", "a=b\na!b\n\nemp\n",
		// Blanks at either end of a line, and two in a row.
		" emp\n\nemp\n", "emp \n\nemp\n", "emp\n \nemp\n", "emp\n  \nemp\n", "emp\n\n emp\n", "emp\n\nemp \n", "emp\n\nemp\n ", " \n\nemp\n", "emp\n\n \n",
		" a=b\n\nemp\n", "a=b \n\nemp\n", "a=b  a!c\n\nemp\n", "emp\n free a\nemp\n", "emp\nfree a \nemp\n", "emp\nfree  a\nemp\n", "emp\n\n a=b\n", "emp\n\na=b \n", "emp\n\na=b  a!c\n", "\temp\n\nemp\n", "emp\n\t\nemp\n",
		// An empty assertion; a line in another one's place.
		"\n\nemp\n", "emp\n\n\n", "\nfree a\n\n", "\nfree a\nemp\n", "emp\nfree a\n\n", "free a\nemp\nemp\n", "emp\nemp\nfree a\n", "emp\nemp\nemp\n", "emp\na=b\nemp\n", "free a\n\nemp\n", "emp\n\nfree a\n", "\nemp\nemp\n",
		// Another order, another word.
		"a!b a=b\n\nemp\n", "a..b a>b\n\nemp\n", "a>b a!b\n\nemp\n", "emp\n\na!b a=b\n", "emp\n\nb..a b>a\n", "emp a=b\n\nemp\n", "a=b emp\n\nemp\n", "emp\n\nemp emp\n", "EMP\n\nemp\n", "emp\n\nEmp\n", "em\n\nemp\n", "emp\n\nempt\n",
		"a = b\n\nemp\n", "a==b\n\nemp\n", "f=a\n\nemp\n", "_11=a\n\nemp\n", "_0=a\n\nemp\n", "_01=a\n\nemp\n", "emp\n\na->b\n",
		"emp\nfree\nemp\n", "emp\nfree nil\nemp\n", "emp\nfree _1\nemp\n", "emp\nfree f\nemp\n", "emp\na:=b\nemp\n", "emp\na := [nil]\nemp\n", "emp\nif a = b { }\nemp\n", "emp\nwhile a = b { }\nemp\n", "emp\nwhile a = b ( _1=a ) { }\nemp\n", "emp\nwhile a = b ( a!b a=b ) { }\nemp\n", "emp\n}\nemp\n", "emp\n{ }\nemp\n", "emp\nfree a }\nemp\n",
		// Read line by line, but not TripleOk.
		"emp\n\n_1=_1\n", "emp\n\na>_10\n", "_1>nil\n\n_1>nil\n", "a>nil\nfree a\nb!_5\n",
		"a=a" + strings.Repeat(" a=a", 11) + " a..b\n\nemp\n", "a!b" + strings.Repeat(" a!b", 11) + " a..b\n\nemp\n", "a=a a=a a=a a=a a=a a=a a=a a..b a..b a..b a..b a..b a..b\n\nemp\n",
		// One too many.
		"a=a" + strings.Repeat(" a=a", 12) + "\n\nemp\n", "emp\n\na=a" + strings.Repeat(" a=a", 12) + "\n", "emp\n\na!b" + strings.Repeat(" a!b", 12) + "\n", "a>b a>b a>b a>b a>b a>b a>b\n\nemp\n", "emp\n\na..b a..b a..b a..b a..b a..b a..b\n", "emp\nfree a" + strings.Repeat(" free a", 20) + "\nemp\n",
	} {
		refusesTriple(t, text)
	}
	refusesTriple(t, "emp\n"+strings.Repeat("if a = b { ", 4)+"free a"+strings.Repeat(" } { }", 4)+"\nemp\n")
	for _, c := range tripleTexts {
		for n := range len(c.text) {
			refusesTriple(t, c.text[:n])
			refusesTriple(t, c.text+c.text[:n+1])
			checkTripleRead(t, c.text[n:])
		}
		refusesTriple(t, c.text+"\n")
		refusesTriple(t, "\n"+c.text)
		refusesTriple(t, strings.TrimSuffix(c.text, "\n"))
	}
}

// What has no room ahead has room behind; and what is just enough is read.
func TestTripleReadAtTheLimits(t *testing.T) {
	for _, text := range []string{
		"a=a" + strings.Repeat(" a=a", 10) + " a..b\n\nemp\n",
		"a!b" + strings.Repeat(" a!b", 10) + " a..b\n\nemp\n",
		"emp\n\na=a" + strings.Repeat(" a=a", 11) + " a..b\n",
		"emp\n\na!b" + strings.Repeat(" a!b", 11) + " a..b\n",
		"a=a a=a a=a a=a a=a a=a a..b a..b a..b a..b a..b a..b\n\nemp\n",
		"emp\nfree a" + strings.Repeat(" free a", 19) + "\nemp\n",
		"emp\n" + strings.Repeat("if a = b { ", 3) + "free a" + strings.Repeat(" } { }", 3) + "\nemp\n",
		asnWord(impl.Asn{Eqs: repeated(impl.Pair{A: 15, B: 15}, 12), Nes: repeated(impl.Pair{A: 15, B: 15}, 12), Cells: repeated(impl.Pair{A: 15, B: 15}, 6)}) + "\n\nemp\n",
		"emp\n\n" + asnWord(impl.Asn{Eqs: repeated(impl.Pair{}, 12), Nes: repeated(impl.Pair{}, 12), Segs: repeated(impl.Pair{}, 6)}) + "\n",
	} {
		if !checkTripleRead(t, text) {
			t.Errorf("TripleRead(%q) is false", text)
		}
	}
}

// No assertion has a text of 400 bytes, so that a line of so many is refused as one that has one more.
func TestTripleReadOfLongLines(t *testing.T) {
	for _, n := range []int{246, 399, 400, 401, 1000} {
		for _, line := range []string{strings.Repeat("a", n), strings.Repeat(" ", n), "emp" + strings.Repeat(" ", n-3), (strings.Repeat("a=a ", n/4+1))[:n], "a=b" + strings.Repeat(" ", n-3)} {
			refusesTriple(t, line+"\n\nemp\n")
			refusesTriple(t, "emp\n\n"+line+"\n")
			refusesTriple(t, line+"\nfree a\n"+line+"\n")
		}
	}
}

// Of a text's length the chapter asks just that it is no more than 3000: so a program of more than 2000 bytes comes back, though ProgRead does not read it.
func TestTripleReadOfLongPrograms(t *testing.T) {
	ahead := impl.Asn{Eqs: repeated(impl.Pair{A: 15, B: 15}, 12), Nes: repeated(impl.Pair{A: 15, B: 15}, 12), Cells: repeated(impl.Pair{A: 15, B: 15}, 6)}
	after := impl.Asn{Eqs: repeated(impl.Pair{}, 12), Nes: repeated(impl.Pair{}, 12), Segs: repeated(impl.Pair{}, 6)}
	for _, n := range []int{1990, 1999, 2000, 2001, 2002, 2299} {
		l := longProg(t, n)
		for _, x := range []triple{{prog: l}, {pre: ahead, prog: l}, {prog: l, post: after}, {ahead, l, after}} {
			checkTriple(t, x)
			if back, ok := impl.TripleRead(impl.TripleText(x.given())); !ok || !sameTriple(back, x.given()) {
				t.Errorf("a triple with a program of %d bytes does not come back", n)
			}
		}
		if longest := len((triple{ahead, l, after}).text()); longest != n+487 {
			t.Fatalf("%d bytes", longest)
		}
		refusesTriple(t, "emp\n"+progWord(l)+" free a\nemp\n")
		refusesTriple(t, "emp\n"+progWord(l)+" \nemp\n")
	}
}

// No triple has a text of more than 2786 bytes, so that texts of 3000 are refused as those that have one more.
func TestTripleReadOfJust3000(t *testing.T) {
	ahead := strings.Repeat("_10=_10 ", 30)
	for _, n := range []int{2787, 2999, 3000, 3001, 3002, 20000, 200000} {
		for _, fill := range []string{"\n", " ", "a", "free a ", "emp\n\nemp\n", "new b free b\n", "if a = b { ", "while a = b ( emp ) { } ", ahead, "a=a ", "\x00", "\xff"} {
			long := strings.Repeat(fill, n/len(fill)+1)
			refusesTriple(t, long[:n])
			refusesTriple(t, "emp\n"+long[:n-9]+"\nemp\n")
			refusesTriple(t, "emp\n\n"+long[:n-6]+"\n")
			refusesTriple(t, long[:n-6]+"\n\nemp\n")
			refusesTriple(t, "emp\n\nemp\n"+long[:n-9])
		}
	}
}

// Every byte of a text gone, and every byte in its place or ahead of it.
func TestTripleReadByteByByte(t *testing.T) {
	for _, text := range []string{"emp\n\nemp\n", "a>_1 _1..nil\nb := [a]\na>b b..nil\n", "a..b\nwhile a ! nil ( a..nil ) { }\nemp\n"} {
		read := 0
		for i := range len(text) + 1 {
			if i < len(text) {
				checkTripleRead(t, text[:i]+text[i+1:])
			}
			for c := range 256 {
				if checkTripleRead(t, text[:i]+string([]byte{byte(c)})+text[i:]) {
					read++
				}
				if i < len(text) && checkTripleRead(t, text[:i]+string([]byte{byte(c)})+text[i+1:]) {
					read++
				}
			}
		}
		if read < len(text) {
			t.Errorf("%d like %q are read", read, text)
		}
	}
}
