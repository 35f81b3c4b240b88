package tests

import (
	"bytes"
	"math"
	"regexp"
	"slices"
	"strings"
	"testing"

	"loop.example/g00621/impl"
)

func TestTermOk(t *testing.T) {
	for x := -40; x < 60; x++ {
		if impl.TermOk(x) != (x >= 0 && x <= 15) {
			t.Errorf("TermOk(%d)", x)
		}
	}
	for _, x := range wrongTerms {
		if impl.TermOk(x) {
			t.Errorf("TermOk(%d)", x)
		}
	}
}

func TestConstants(t *testing.T) {
	if impl.Nil != 0 || impl.Vars != 5 || impl.Terms != 16 || impl.MaxPure != 12 || impl.MaxSpace != 6 {
		t.Fatal("the limits are not those of the document")
	}
}

func TestTermText(t *testing.T) {
	for x := range impl.Terms {
		b := impl.TermText(x)
		if string(b) != termWord(x) {
			t.Errorf("TermText(%d) = %q", x, b)
		}
		if y, ok := impl.TermRead(b); !ok || y != x {
			t.Errorf("TermRead(%q) = %d, %v", b, y, ok)
		}
	}
	for _, x := range wrongTerms {
		if b := impl.TermText(x); len(b) != 0 {
			t.Errorf("TermText(%d) = %q", x, b)
		}
	}
}

func TestTermReadTakesNothingElse(t *testing.T) {
	want := map[string]int{}
	for x := range impl.Terms {
		want[termWord(x)] = x
	}
	const letters = "abefnilN_0123459 =-+\x00\xff"
	texts := []string{""}
	for from := 0; len(texts[len(texts)-1]) < 4; from++ {
		for i := range len(letters) {
			texts = append(texts, texts[from]+letters[i:i+1])
		}
	}
	texts = append(texts, "_010", "_100", "_18446744073709551617", "nilnil", " nil", "nil ", "_", "__1", "_-1", "_1_", "emp", "NIL", "A", "_1 ", "_10 ", strings.Repeat("a", 5000))
	for _, s := range texts {
		x, ok := impl.TermRead([]byte(s))
		y, known := want[s]
		if x != y || ok != known {
			t.Errorf("TermRead(%q) = %d, %v", s, x, ok)
		}
	}
	if x, ok := impl.TermRead(nil); x != 0 || ok {
		t.Errorf("TermRead(nil) = %d, %v", x, ok)
	}
}

// fullAsn meets every limit, with the longest texts there are.
func fullAsn(cells int) impl.Asn {
	p := impl.Pair{A: 15, B: 15}
	return impl.Asn{
		Eqs:   repeated(p, impl.MaxPure),
		Nes:   repeated(p, impl.MaxPure),
		Cells: repeated(p, cells),
		Segs:  repeated(p, impl.MaxSpace-cells),
	}
}

func TestAsnOkLimits(t *testing.T) {
	if !impl.AsnOk(impl.Asn{}) || !impl.AsnOk(impl.Asn{Eqs: pairs{}, Segs: pairs{}}) {
		t.Error("emp is not AsnOk")
	}
	for cells := 0; cells <= impl.MaxSpace; cells++ {
		a := fullAsn(cells)
		if !impl.AsnOk(a) {
			t.Errorf("limits are met exactly, %d cells", cells)
		}
		for k, l := range listsOf(a) {
			more := listsOf(a)
			more[k] = append(slices.Clone(l), impl.Pair{})
			if impl.AsnOk(asnOf(more)) {
				t.Errorf("limit of kind %d is passed by one, %d cells", k, cells)
			}
		}
	}
	for k := range kinds {
		for x := -1; x <= impl.Terms; x++ {
			var l, r [kinds]pairs
			l[k], r[k] = pairs{{A: x}}, pairs{{B: x}}
			if want := x >= 0 && x < impl.Terms; impl.AsnOk(asnOf(l)) != want || impl.AsnOk(asnOf(r)) != want {
				t.Errorf("AsnOk with the term %d, kind %d", x, k)
			}
		}
	}
	for _, a := range wrongAsns() {
		if impl.AsnOk(a) {
			t.Errorf("AsnOk(%s)", describe(a))
		}
	}
	for _, a := range drawnAsns(500) {
		if !impl.AsnOk(a) {
			t.Errorf("not AsnOk(%s)", describe(a))
		}
	}
}

func TestAsnTextOfKnownOnes(t *testing.T) {
	for _, c := range []struct {
		a    impl.Asn
		text string
	}{
		{impl.Asn{}, "emp"},
		{impl.Asn{Eqs: pairs{}, Nes: pairs{}, Cells: pairs{}, Segs: pairs{}}, "emp"},
		{impl.Asn{Eqs: pairs{{A: 0, B: 0}}}, "nil=nil"},
		{impl.Asn{Nes: pairs{{A: 5, B: 6}}}, "e!_1"},
		{impl.Asn{Cells: pairs{{A: 15, B: 0}}}, "_10>nil"},
		{impl.Asn{Segs: pairs{{A: 1, B: 15}}}, "a.._10"},
		{impl.Asn{Segs: pairs{{A: 3, B: 2}, {A: 1, B: 1}}, Cells: pairs{{A: 4, B: 2}}, Nes: pairs{{A: 2, B: 1}}, Eqs: pairs{{A: 9, B: 8}, {A: 9, B: 8}}}, "_4=_3 _4=_3 b!a d>b c..b a..a"},
	} {
		if s := impl.AsnText(c.a); string(s) != c.text {
			t.Errorf("AsnText(%s) = %q, not %q", describe(c.a), s, c.text)
		}
		if a, ok := impl.AsnRead([]byte(c.text)); !ok || !sameAsn(a, c.a) {
			t.Errorf("AsnRead(%q) = %s, %v", c.text, describe(a), ok)
		}
	}
	for _, a := range wrongAsns() {
		if s := impl.AsnText(a); len(s) != 0 {
			t.Errorf("AsnText(%s) = %q", describe(a), s)
		}
	}
}

func TestAssertionsComeBackFromTheirTexts(t *testing.T) {
	all := drawnAsns(2000)
	for cells := 0; cells <= impl.MaxSpace; cells++ {
		all = append(all, fullAsn(cells))
	}
	for _, a := range all {
		s := impl.AsnText(a)
		if string(s) != asnWord(a) {
			t.Fatalf("AsnText(%s) = %q, not %q", describe(a), s, asnWord(a))
		}
		back, ok := impl.AsnRead(s)
		if !ok || !sameAsn(back, a) {
			t.Fatalf("AsnRead(%q) = %s, %v", s, describe(back), ok)
		}
	}
}

func refusesText(t *testing.T, s string) {
	t.Helper()
	if a, ok := impl.AsnRead([]byte(s)); ok || !isZero(a) {
		t.Errorf("AsnRead(%q) = %s, %v", s, describe(a), ok)
	}
}

func TestAsnReadRefuses(t *testing.T) {
	for _, s := range []string{
		"", " ", "  ", "em", "empp", " emp", "emp ", "emp emp", "emp a=b", "a=b emp", "Emp", "nil", "a", "=", "!", ">", "..", "a=", "=a", "a>", "..a", "a..",
		" a=b", "a=b ", "a=b  a=b", "a=b\ta=b", "a=b\na=b", "a=b,a=b", "a = b", "a= b", "a=b\n", "a=b\x00", "a==b", "a=b=c", "a!=b", "a.b", "a...b", "a....b", "a..b..c",
		"a>b..c", "a->b", "a<b", "f=a", "a=f", "A=b", "_0=a", "_11=a", "_01=a", "a=_11", "a=_", "a=_1_", "nul=a", "a=Nil", "0=1",
		"a!b a=b", "a>b a=b", "a>b a!b", "a..b a=b", "a..b a!b", "a..b a>b", "a=b a>b a!b", "a=b a..b a>b c..d", "a=b a!b a=c",
		"\xff=a", "a=\xc3\xa9", "a\u00a0=b",
	} {
		refusesText(t, s)
	}
	if a, ok := impl.AsnRead(nil); ok || !isZero(a) {
		t.Error("AsnRead(nil)")
	}
}

func wordsText(words ...string) string { return strings.Join(words, " ") }

func TestAsnReadLimits(t *testing.T) {
	for _, mark := range []string{"=", "!", ">", ".."} {
		most := impl.MaxPure
		if mark == ">" || mark == ".." {
			most = impl.MaxSpace
		}
		w := "a" + mark + "b"
		mustRead(t, wordsText(slices.Repeat([]string{w}, most)...))
		refusesText(t, wordsText(slices.Repeat([]string{w}, most+1)...))
	}
	for cells := 0; cells <= impl.MaxSpace; cells++ {
		l := append(slices.Repeat([]string{"a>b"}, cells), slices.Repeat([]string{"c..d"}, impl.MaxSpace-cells)...)
		mustRead(t, wordsText(l...))
		refusesText(t, wordsText(append(l, "a..a")...))
		refusesText(t, wordsText(append([]string{"a>a"}, l...)...))
	}
}

// No assertion's text comes near the limit of 400 bytes, so that texts that meet it and texts that pass it are refused alike.
func TestAsnReadLength(t *testing.T) {
	longest := asnWord(fullAsn(0))
	if len(longest) != 245 {
		t.Fatal(len(longest))
	}
	mustRead(t, longest)
	for _, n := range []int{399, 400, 401, 402, 1000, 100000} {
		l := slices.Repeat([]string{"a=b"}, n/4)
		refusesText(t, wordsText(l...)+strings.Repeat(" ", n-4*len(l)+1))
		refusesText(t, strings.Repeat("a", n))
		refusesText(t, longest+strings.Repeat(" ", n-len(longest)))
		refusesText(t, strings.Repeat("emp ", n/4)+strings.Repeat(" ", n%4))
		refusesText(t, "a="+strings.Repeat("_", n-2))
		b := []byte(strings.Repeat("_10=_10 ", n/8+1))[:n]
		refusesText(t, string(b))
	}
}

var (
	termForm = `(?:nil|[a-e]|_10|_[1-9])`
	asnForm  = regexp.MustCompile(`^(?:emp|` + strings.Join([]string{
		`(?: ` + termForm + `=` + termForm + `){0,12}`,
		`(?: ` + termForm + `!` + termForm + `){0,12}`,
		`((?: ` + termForm + `>` + termForm + `)*)`,
		`((?: ` + termForm + `\.\.` + termForm + `)*)`,
	}, "") + `)$`)
)

// isAsnText knows the texts by their form alone; ahead of the first word the form has a blank, too.
func isAsnText(s string) bool {
	if s == "emp" {
		return true
	}
	m := asnForm.FindStringSubmatch(" " + s)
	return m != nil && strings.Count(m[1]+m[2], " ") <= impl.MaxSpace
}

func checkReadByForm(t *testing.T, s string) {
	t.Helper()
	a, ok := impl.AsnRead([]byte(s))
	if want := isAsnText(s); ok != want {
		t.Errorf("AsnRead(%q) = %v, by its form %v", s, ok, want)
	}
	if ok && asnWord(a) != s || !ok && !isZero(a) {
		t.Errorf("AsnRead(%q) = %s, %v", s, describe(a), ok)
	}
}

func TestAsnReadTakesJustTheTexts(t *testing.T) {
	const letters = "abf_012nil=!>. \x00"
	for _, s := range []string{"emp", "a=b", "a=b a!nil a>_1 _1..nil", "_10.._1 b..b", "nil!_9 c>_10", asnWord(fullAsn(3))} {
		checkReadByForm(t, s)
		for i := 0; i <= len(s); i++ {
			for j := i + 1; j <= len(s) && j <= i+6; j++ {
				checkReadByForm(t, s[:i]+s[j:])
			}
			for _, c := range letters {
				checkReadByForm(t, s[:i]+string(c)+s[i:])
				if i < len(s) {
					checkReadByForm(t, s[:i]+string(c)+s[i+1:])
				}
			}
		}
	}
}

// mapped puts f of each term for it.
func mapped(a impl.Asn, f func(int) int) impl.Asn {
	var out [kinds]pairs
	for k, l := range listsOf(a) {
		for _, p := range l {
			out[k] = append(out[k], impl.Pair{A: f(p.A), B: f(p.B)})
		}
	}
	return asnOf(out)
}

func TestSubst(t *testing.T) {
	a := mustRead(t, "a=b b=a a!nil _1!a a>_1 _1..a c..c")
	for _, c := range []struct {
		t, by int
		text  string
	}{
		{1, 2, "b=b b=b b!nil _1!b b>_1 _1..b c..c"},
		{1, impl.Nil, "nil=b b=nil nil!nil _1!nil nil>_1 _1..nil c..c"},
		{6, 15, "a=b b=a a!nil _10!a a>_10 _10..a c..c"},
		{3, 1, "a=b b=a a!nil _1!a a>_1 _1..a a..a"},
		{4, 1, "a=b b=a a!nil _1!a a>_1 _1..a c..c"},
		{15, 0, "a=b b=a a!nil _1!a a>_1 _1..a c..c"},
		{1, 1, "a=b b=a a!nil _1!a a>_1 _1..a c..c"},
	} {
		if b, ok := impl.Subst(a, c.t, c.by); !ok || asnWord(b) != c.text {
			t.Errorf("Subst(%d, %d) = %q, %v", c.t, c.by, asnWord(b), ok)
		}
	}
	for i, a := range drawnAsns(300) {
		x, by := 1+i%(impl.Terms-1), i/3%impl.Terms
		want := mapped(a, func(y int) int {
			if y == x {
				return by
			}
			return y
		})
		if b, ok := impl.Subst(a, x, by); !ok || !sameAsn(b, want) {
			t.Errorf("Subst(%s, %d, %d) = %s, %v", describe(a), x, by, describe(b), ok)
		}
	}
}

func TestSubstRefuses(t *testing.T) {
	refuses := func(a impl.Asn, x, by int) {
		t.Helper()
		if b, ok := impl.Subst(a, x, by); ok || !isZero(b) {
			t.Errorf("Subst(%s, %d, %d) = %s, %v", describe(a), x, by, describe(b), ok)
		}
	}
	a := mustRead(t, "a=b a!nil a>_1 _1..nil")
	for _, b := range []impl.Asn{a, {}} {
		for by := range impl.Terms {
			refuses(b, impl.Nil, by)
		}
		for _, x := range wrongTerms {
			refuses(b, x, 1)
			refuses(b, 1, x)
			refuses(b, x, x)
		}
	}
	for _, w := range wrongAsns() {
		refuses(w, 1, 2)
		refuses(w, 1, 0)
	}
	if b, ok := impl.Subst(impl.Asn{}, 15, 15); !ok || !isZero(b) {
		t.Error("Subst of emp")
	}
	if _, ok := impl.Subst(a, 1, 15); !ok {
		t.Error("Subst of the last term")
	}
}

func TestStar(t *testing.T) {
	a := mustRead(t, "a=b b=a a!nil a>_1 _1..nil")
	b := mustRead(t, "c=d e!a e!b d>e c>e a..a b..b")
	if x, ok := impl.Star(a, b); !ok || asnWord(x) != "a=b b=a c=d a!nil e!a e!b a>_1 d>e c>e _1..nil a..a b..b" {
		t.Errorf("Star = %q, %v", asnWord(x), ok)
	}
	if x, ok := impl.Star(b, a); !ok || asnWord(x) != "c=d a=b b=a e!a e!b a!nil d>e c>e a>_1 a..a b..b _1..nil" {
		t.Errorf("Star = %q, %v", asnWord(x), ok)
	}
	for _, a := range drawnAsns(200) {
		for _, empty := range []impl.Asn{{}, {Eqs: pairs{}, Nes: pairs{}, Cells: pairs{}, Segs: pairs{}}} {
			x, ok := impl.Star(a, empty)
			y, fine := impl.Star(empty, a)
			if !ok || !fine || !sameAsn(x, a) || !sameAsn(y, a) {
				t.Errorf("Star(%s, emp)", describe(a))
			}
		}
	}
}

func TestStarLimits(t *testing.T) {
	p, q := impl.Pair{A: 1, B: 2}, impl.Pair{A: 3, B: 15}
	for k := range kinds {
		most := impl.MaxPure
		if k >= 2 {
			most = impl.MaxSpace
		}
		for n := 0; n <= most; n++ {
			for over := range 2 {
				var l, r [kinds]pairs
				l[k], r[k] = repeated(p, n), repeated(q, most-n+over)
				if n == 0 && over == 1 {
					continue
				}
				x, ok := impl.Star(asnOf(l), asnOf(r))
				if over == 1 {
					if ok || !isZero(x) {
						t.Errorf("kind %d: %d and %d: %s, %v", k, n, most-n+1, describe(x), ok)
					}
				} else if !ok || !slices.Equal(listsOf(x)[k], append(repeated(p, n), repeated(q, most-n)...)) {
					t.Errorf("kind %d: %d and %d: %s, %v", k, n, most-n, describe(x), ok)
				}
			}
		}
	}
	cells, segs := impl.Asn{Cells: repeated(p, 3)}, impl.Asn{Segs: repeated(p, 3)}
	if x, ok := impl.Star(cells, segs); !ok || len(x.Cells) != 3 || len(x.Segs) != 3 {
		t.Error("three cells and three segments")
	}
	segs.Segs = repeated(p, 4)
	for _, c := range [][2]impl.Asn{{cells, segs}, {segs, cells}} {
		if x, ok := impl.Star(c[0], c[1]); ok || !isZero(x) {
			t.Error("three cells and four segments")
		}
	}
	for _, w := range wrongAsns() {
		for _, c := range [][2]impl.Asn{{w, {}}, {{}, w}, {w, w}, {w, cells}, {cells, w}} {
			if x, ok := impl.Star(c[0], c[1]); ok || !isZero(x) {
				t.Errorf("Star of %s = %s, %v", describe(w), describe(x), ok)
			}
		}
	}
}

// withTerms has just these terms, each in a place that i chooses.
func withTerms(l []int, i int) impl.Asn {
	var out [kinds]pairs
	for _, x := range l {
		p := impl.Pair{A: x, B: x}
		if i%3 == 1 {
			p.A = l[0]
		} else if i%3 == 2 {
			p.B = l[0]
		}
		k := i % kinds
		if k >= 2 && len(out[2])+len(out[3]) == impl.MaxSpace || len(out[k]) == impl.MaxPure {
			k = 0
		}
		if len(out[k]) == impl.MaxPure {
			k = 1
		}
		out[k] = append(out[k], p)
		i++
	}
	return asnOf(out)
}

// termsThere is found out by the words, not by the program.
func termsThere(a impl.Asn) []int {
	var l []int
	for x := range impl.Terms {
		if slices.ContainsFunc(slices.Concat(a.Eqs, a.Nes, a.Cells, a.Segs), func(p impl.Pair) bool { return p.A == x || p.B == x }) {
			l = append(l, x)
		}
	}
	return l
}

func checkTerms(t *testing.T, a impl.Asn) {
	t.Helper()
	want := termsThere(a)
	if l := impl.TermsOf(a); !slices.Equal(l, want) {
		t.Errorf("TermsOf(%s) = %v", describe(a), l)
	}
	fresh, plain := -1, true
	for x := impl.Terms - 1; x > impl.Vars; x-- {
		if slices.Contains(want, x) {
			plain = false
		} else {
			fresh = x
		}
	}
	if x := impl.Fresh(a); x != fresh {
		t.Errorf("Fresh(%s) = %d, not %d", describe(a), x, fresh)
	}
	if impl.Plain(a) != plain {
		t.Errorf("Plain(%s)", describe(a))
	}
	for x := range impl.Terms {
		if impl.Has(a, x) != slices.Contains(want, x) {
			t.Errorf("Has(%s, %d)", describe(a), x)
		}
	}
	for _, x := range wrongTerms {
		if impl.Has(a, x) {
			t.Errorf("Has(%s, %d)", describe(a), x)
		}
	}
	if n := impl.SizeOf(a); n != len(a.Eqs)+len(a.Nes)+len(a.Cells)+len(a.Segs) {
		t.Errorf("SizeOf(%s) = %d", describe(a), n)
	}
}

func TestTermsThatAreThere(t *testing.T) {
	for _, a := range drawnAsns(1000) {
		checkTerms(t, a)
	}
	for set := range 1 << impl.Terms {
		if set%7 != 0 && set >= 256 && set < 1<<impl.Terms-256 {
			continue
		}
		var l []int
		for x := range impl.Terms {
			if set>>x&1 == 1 {
				l = append(l, x)
			}
		}
		a := withTerms(l, set)
		if !slices.Equal(termsThere(a), l) {
			t.Fatal("withTerms", l, describe(a))
		}
		checkTerms(t, a)
	}
	for cells := 0; cells <= impl.MaxSpace; cells++ {
		checkTerms(t, fullAsn(cells))
	}
}

func TestFreshByName(t *testing.T) {
	if x := impl.Fresh(impl.Asn{}); x != impl.Vars+1 {
		t.Errorf("Fresh of emp = %d", x)
	}
	if x := impl.Fresh(allNames()); x != -1 {
		t.Errorf("Fresh of all names = %d", x)
	}
	for gone := impl.Vars + 1; gone < impl.Terms; gone++ {
		a, _ := impl.Subst(allNames(), gone, 1)
		if x := impl.Fresh(a); x != gone {
			t.Errorf("Fresh without %d = %d", gone, x)
		}
	}
	for s, want := range map[string]int{"a>_1": 7, "a>_2": 6, "_1=_3 _2..nil": 9, "e!d": 6} {
		if x := impl.Fresh(mustRead(t, s)); x != want {
			t.Errorf("Fresh(%s) = %d", s, x)
		}
	}
}

func TestPlainByName(t *testing.T) {
	for s, want := range map[string]bool{"emp": true, "e..nil": true, "_1=a": false, "a!_1": false, "a>_10": false, "_10..a": false, "a=b b!c c>d d..e": true} {
		if impl.Plain(mustRead(t, s)) != want {
			t.Errorf("Plain(%s)", s)
		}
	}
}

func TestTermsOfWrongOnes(t *testing.T) {
	for _, w := range wrongAsns() {
		if l := impl.TermsOf(w); len(l) != 0 {
			t.Errorf("TermsOf(%s) = %v", describe(w), l)
		}
		if x := impl.Fresh(w); x != -1 {
			t.Errorf("Fresh(%s) = %d", describe(w), x)
		}
		if impl.Plain(w) {
			t.Errorf("Plain(%s)", describe(w))
		}
		for _, x := range append([]int{0, 1, 2, 15}, wrongTerms...) {
			if impl.Has(w, x) {
				t.Errorf("Has(%s, %d)", describe(w), x)
			}
		}
		if n := impl.SizeOf(w); n != -1 {
			t.Errorf("SizeOf(%s) = %d", describe(w), n)
		}
	}
}

var wrongPlaces = []int{-1, kinds, -2, 5, 13, math.MinInt, math.MaxInt, 1 << 32}

func TestPairsOf(t *testing.T) {
	all := append(drawnAsns(200), impl.Asn{}, fullAsn(0), fullAsn(6), fullAsn(3))
	for _, a := range all {
		n := 0
		for k, want := range listsOf(a) {
			l := impl.PairsOf(a, k)
			if !slices.Equal(l, want) {
				t.Errorf("PairsOf(%s, %d) = %v", describe(a), k, l)
			}
			n += len(l)
		}
		if n != impl.SizeOf(a) {
			t.Errorf("SizeOf(%s) = %d, not %d", describe(a), impl.SizeOf(a), n)
		}
		for _, k := range wrongPlaces {
			if l := impl.PairsOf(a, k); len(l) != 0 {
				t.Errorf("PairsOf(%s, %d) = %v", describe(a), k, l)
			}
		}
	}
	for _, w := range wrongAsns() {
		for k := -1; k <= kinds; k++ {
			if l := impl.PairsOf(w, k); len(l) != 0 {
				t.Errorf("PairsOf(%s, %d) = %v", describe(w), k, l)
			}
		}
	}
}

func refusesWithout(t *testing.T, a impl.Asn, kind, i int) {
	t.Helper()
	if b, ok := impl.Without(a, kind, i); ok || !isZero(b) {
		t.Errorf("Without(%s, %d, %d) = %s, %v", describe(a), kind, i, describe(b), ok)
	}
}

func TestWithout(t *testing.T) {
	all := append(drawnAsns(200), impl.Asn{}, fullAsn(0), fullAsn(6), mustRead(t, "a=b c=d a!nil a!b a>b b>c c..d d..e"))
	for _, a := range all {
		for k, l := range listsOf(a) {
			for i := range l {
				want := listsOf(a)
				want[k] = slices.Delete(slices.Clone(l), i, i+1)
				if b, ok := impl.Without(a, k, i); !ok || !sameAsn(b, asnOf(want)) {
					t.Errorf("Without(%s, %d, %d) = %s, %v", describe(a), k, i, describe(b), ok)
				}
			}
			for _, i := range []int{-1, len(l), len(l) + 1, math.MinInt, math.MaxInt} {
				refusesWithout(t, a, k, i)
			}
		}
		for _, k := range wrongPlaces {
			refusesWithout(t, a, k, 0)
		}
	}
	for _, w := range wrongAsns() {
		for k := -1; k <= kinds; k++ {
			refusesWithout(t, w, k, 0)
		}
	}
}

func inOrder(l pairs) bool {
	for i := 1; i < len(l); i++ {
		if l[i-1].A > l[i].A || l[i-1].A == l[i].A && l[i-1].B > l[i].B {
			return false
		}
	}
	return true
}

func countsOf(l pairs) map[impl.Pair]int {
	n := map[impl.Pair]int{}
	for _, p := range l {
		n[p]++
	}
	return n
}

func TestSorted(t *testing.T) {
	a := mustRead(t, "c=a a=c a=b _10=nil nil=_10 a=b _2!a _10!a a!_10 a!_2 b>a b>nil a>c e..d d..e d..nil")
	if b, ok := impl.Sorted(a); !ok || asnWord(b) != "nil=_10 a=b a=b a=c c=a _10=nil a!_2 a!_10 _2!a _10!a a>c b>nil b>a d..nil d..e e..d" {
		t.Errorf("Sorted = %q, %v", asnWord(b), ok)
	}
	for _, a := range append(drawnAsns(500), impl.Asn{}, fullAsn(3)) {
		b, ok := impl.Sorted(a)
		if !ok || impl.SizeOf(b) != impl.SizeOf(a) || !slices.Equal(impl.TermsOf(b), impl.TermsOf(a)) {
			t.Fatalf("Sorted(%s) = %s, %v", describe(a), describe(b), ok)
		}
		for k, l := range listsOf(b) {
			x, y := countsOf(l), countsOf(listsOf(a)[k])
			for p, n := range y {
				if x[p] != n {
					t.Errorf("Sorted(%s) has %v %d times", describe(a), p, x[p])
				}
			}
			if !inOrder(l) || len(x) != len(y) {
				t.Errorf("Sorted(%s) = %s", describe(a), describe(b))
			}
		}
		again, ok := impl.Sorted(b)
		if !ok || !sameAsn(again, b) {
			t.Errorf("Sorted of what is sorted: %s", describe(b))
		}
	}
	for _, w := range wrongAsns() {
		if b, ok := impl.Sorted(w); ok || !isZero(b) {
			t.Errorf("Sorted(%s) = %s, %v", describe(w), describe(b), ok)
		}
	}
}

func TestTextsAreNotKept(t *testing.T) {
	for x := range impl.Terms {
		b := impl.TermText(x)
		for i := range b[:cap(b)] {
			b[:cap(b)][i] = '#'
		}
		if !bytes.Equal(impl.TermText(x), []byte(termWord(x))) {
			t.Errorf("TermText(%d) is kept", x)
		}
	}
	for _, a := range append(drawnAsns(20), impl.Asn{}) {
		b := impl.AsnText(a)
		for i := range b[:cap(b)] {
			b[:cap(b)][i] = '#'
		}
		if !bytes.Equal(impl.AsnText(a), []byte(asnWord(a))) {
			t.Errorf("AsnText(%s) is kept", describe(a))
		}
	}
}
