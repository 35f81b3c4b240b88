package tests

import (
	"slices"
	"strings"
	"testing"

	"loop.example/g00621/impl"
)

func TestCountOfKnownOnes(t *testing.T) {
	all := "holds\nfault\npost\ninvariant\ngave up\nunread\n"
	for _, c := range []struct {
		report string
		want   [5]int
	}{
		{"", [5]int{}},
		{"\n", [5]int{}},
		{"unread\n", [5]int{}},
		{all, [5]int{1, 1, 1, 1, 1}},
		{all + all, [5]int{2, 2, 2, 2, 2}},
		{"holds\nholds\nfault\nholds\n", [5]int{3, 1}},
		{"gave up\npost\ngave up\ninvariant\npost\npost\n", [5]int{0, 0, 3, 1, 2}},
		// The last line without a byte 10.
		{"holds", [5]int{1}},
		{"fault\nholds", [5]int{1, 1}},
		{"holds\nfault", [5]int{1, 1}},
		{"post\npost\npost", [5]int{0, 0, 3}},
		{"gave up", [5]int{0, 0, 0, 0, 1}},
		{"invariant\n\ninvariant", [5]int{0, 0, 0, 2}},
		// Something ahead of it, or behind it; or not all of it.
		{" holds\nholds \n holds \nholdsholds\nholds holds\nxholds\nholdsx\nhold\nolds\nh\nHolds\nHOLDS\nholds\r\nholds\x00\n\x00holds\nho lds\nholds.", [5]int{}},
		{" fault\nfault \nfaults\ndefault\nfaul\nfaultfault\n", [5]int{}},
		{" post\npost \nposts\npos\nVdPost\npost\tpost\n", [5]int{}},
		{" invariant\ninvariant \ninvariants\ninv\ninvarian\nnvariant\n", [5]int{}},
		{" gave up\ngave up \ngave\nup\ngave  up\ngaveup\ngave\nup\ngave\tup\n", [5]int{}},
		{"holds fault\npost invariant\n", [5]int{}},
		{"0\n1\n2\n3\n4\n", [5]int{}},
		{"holds\n holds\nholds\n", [5]int{2}},
		// Empty lines do no harm.
		{"\n\nholds\n\n\nholds\n\n", [5]int{2}},
		{"\nholds", [5]int{1}},
	} {
		for v, want := range c.want {
			if n := impl.CountOf([]byte(c.report), v); n != want {
				t.Errorf("CountOf(%q, %d) = %d, not %d", c.report, v, n, want)
			}
		}
		for _, v := range notVerdicts {
			if n := impl.CountOf([]byte(c.report), v); n != -1 {
				t.Errorf("CountOf(%q, %d) = %d", c.report, v, n)
			}
		}
		checkCounts(t, c.report)
	}
	if n := impl.CountOf(nil, impl.VdHolds); n != 0 {
		t.Errorf("CountOf(nil) = %d", n)
	}
	if n := impl.CountOf(nil, -1); n != -1 {
		t.Errorf("CountOf(nil, -1) = %d", n)
	}
}

// Each verdict's word fills just 20000 bytes, or nearly.
func TestCountOfJust20000(t *testing.T) {
	for v, word := range verdictTexts {
		line := word + "\n"
		n := 20000 / len(line)
		full := strings.Repeat(line, n)
		full += strings.Repeat("\n", 20000-len(full))
		for _, c := range []struct {
			report string
			want   int
		}{
			{full, n},
			{full[:19999], n},
			{full + "\n", -1},
			{full + "x", -1},
			{full + line, -1},
			{"\n" + full, -1},
			{full[len(line):] + strings.Repeat("x", len(line)), n - 1},
			{strings.Repeat("x", 20000-len(word)-1) + "\n" + word, 1},
			{strings.Repeat("x", 20000-len(word)) + "\n" + word, -1},
			{strings.Repeat("\n", 20000-len(word)) + word, 1},
			{strings.Repeat("\n", 20001-len(word)) + word, -1},
			{strings.Repeat("\n", 20000), 0},
			{strings.Repeat("\n", 20001), -1},
			{strings.Repeat("x", 20000), 0},
			{strings.Repeat("x", 20001), -1},
			{strings.Repeat(line, 20000), -1},
		} {
			if got := impl.CountOf([]byte(c.report), v); got != c.want {
				t.Errorf("CountOf(%d bytes, %d) = %d, not %d", len(c.report), v, got, c.want)
			}
			for _, bad := range notVerdicts {
				if got := impl.CountOf([]byte(c.report), bad); got != -1 {
					t.Errorf("CountOf(%d bytes, %d) = %d", len(c.report), bad, got)
				}
			}
			checkCounts(t, c.report)
		}
	}
}

func TestAllHoldKnownOnes(t *testing.T) {
	for _, report := range []string{"", "holds", "holds\n", "holds\nholds", "holds\nholds\n", strings.Repeat("holds\n", 50), strings.Repeat("holds\n", 50) + "holds"} {
		if !impl.AllHold([]byte(report)) {
			t.Errorf("AllHold(%q) is false", report)
		}
		checkCounts(t, report)
		// One line that is another, at any place.
		for _, line := range []string{"fault\n", "post\n", "invariant\n", "gave up\n", "unread\n", "\n", " \n", "holds \n", " holds\n", "hold\n", "holdsholds\n", "Holds\n", "holds\r\n", "\x00\n", "x\n"} {
			for n := range 5 {
				bent := strings.Repeat("holds\n", n) + line + report
				if impl.AllHold([]byte(bent)) {
					t.Errorf("AllHold(%q)", bent)
				}
				last := strings.TrimSuffix(strings.Repeat("holds\n", n)+line, "\n")
				if impl.AllHold([]byte(last)) != (allHoldBy(last)) {
					t.Errorf("AllHold(%q)", last)
				}
				checkCounts(t, bent)
				checkCounts(t, last)
			}
		}
	}
	for _, report := range []string{"\n", "\n\n", "holds\n\n", "\nholds\n", "holds\n\nholds\n", "x", "holdsx", "xholds", "holds\nx", "x\nholds", "hold", "fault", "unread", "holds\nfault", "holds holds", "holds\r\n", "holds\x00", "gave up"} {
		if impl.AllHold([]byte(report)) {
			t.Errorf("AllHold(%q)", report)
		}
		checkCounts(t, report)
	}
	if !impl.AllHold(nil) {
		t.Error("AllHold(nil) is false")
	}
}

// Lines that all hold have 19998 bytes at most; of those from 20000 on one is another, or they are too many.
func TestAllHoldOfJust20000(t *testing.T) {
	for _, c := range []struct {
		report string
		want   bool
	}{
		{strings.Repeat("holds\n", 3333), true},
		{strings.TrimSuffix(strings.Repeat("holds\n", 3333), "\n"), true},
		{strings.Repeat("holds\n", 3333) + "\n", false},
		{strings.Repeat("holds\n", 3333) + "\n\n", false},
		{strings.Repeat("holds\n", 3333) + "ho", false},
		{strings.Repeat("holds\n", 3333) + "ho\n", false},
		{strings.Repeat("holds\n", 3333) + "holds", false},
		{strings.Repeat("holds\n", 3334), false},
		{strings.Repeat("holds\n", 200000), false},
		{strings.Repeat("x", 20001), false},
		{strings.Repeat("\n", 20001), false},
	} {
		if got := impl.AllHold([]byte(c.report)); got != c.want {
			t.Errorf("AllHold of %d bytes = %v", len(c.report), got)
		}
		checkCounts(t, c.report)
	}
}

func TestCountsByAnotherWay(t *testing.T) {
	words := append([]string{"unread", "", " ", "hold", "holds ", "gave", "up", "x"}, verdictTexts...)
	ends := []string{"\n", "\n", "\n", "\n", "\n", "\n", " ", "", "\r\n", "\n\n"}
	d := draw(22)
	for range 3000 {
		report := ""
		most := len(words)
		if d.below(3) == 0 {
			most = 9
		}
		for range d.below(9) {
			report += words[len(words)-1-d.below(most)] + ends[d.below(len(ends))]
		}
		checkCounts(t, report)
		checkCounts(t, strings.TrimSuffix(report, "\n"))
	}
}

func givenOf(l []triple) []impl.Triple {
	var out []impl.Triple
	for _, x := range l {
		out = append(out, x.given())
	}
	return out
}

func TestJoinedKnownOnes(t *testing.T) {
	if text := impl.Joined(nil); len(text) != 0 {
		t.Errorf("Joined(nil) = %q", text)
	}
	if text := impl.Joined([]impl.Triple{}); len(text) != 0 {
		t.Errorf("Joined of none = %q", text)
	}
	if text := string(impl.Joined([]impl.Triple{{}, {Prog: cmds{freeA}}})); text != "emp\n\nemp\nemp\nfree a\nemp\n" {
		t.Errorf("Joined = %q", text)
	}
	if text := string(impl.Joined([]impl.Triple{{Prog: cmds{freeA}}, {}})); text != "emp\nfree a\nemp\nemp\n\nemp\n" {
		t.Errorf("Joined = %q", text)
	}
	for from := range tripleTexts {
		var l []triple
		want := ""
		for n := range 9 {
			text := string(impl.Joined(givenOf(l)))
			if n <= 6 && text != want || n > 6 && len(text) != 0 {
				t.Errorf("Joined of %d = %q, not %q", n, text, want)
			}
			c := tripleTexts[(from+n)%len(tripleTexts)]
			l = append(l, c.x)
			want += c.text
		}
	}
	for _, n := range []int{7, 8, 100, 5000} {
		if text := impl.Joined(make([]impl.Triple, n)); len(text) != 0 {
			t.Errorf("Joined of %d = %q", n, text)
		}
	}
}

// One among them that is not TripleOk, at each place there is.
func TestJoinedAsksEachOne(t *testing.T) {
	bad := []impl.Triple{{Pre: fullAsn(5)}, {Prog: wrongProgs()[0]}, {Prog: cmds{{}}}, {Post: mustRead(t, "_1=a")}, {Pre: wrongAsns()[0]}, {Post: wrongAsns()[20]}, {Prog: endlessProgs()[0]}}
	for _, x := range bad {
		for n := 1; n < 9; n++ {
			for i := range n {
				l := make([]impl.Triple, n)
				l[i] = x
				if text := impl.Joined(l); len(text) != 0 {
					t.Errorf("Joined of %d = %q", n, text)
				}
			}
		}
		if text := impl.Joined(slices.Repeat([]impl.Triple{x}, 6)); len(text) != 0 {
			t.Errorf("Joined = %q", text)
		}
	}
}

// Six of the longest are fewer bytes than a report takes.
func TestJoinedOfLongOnes(t *testing.T) {
	ahead := impl.Asn{Eqs: repeated(impl.Pair{A: 15, B: 15}, 12), Nes: repeated(impl.Pair{A: 15, B: 15}, 12), Cells: repeated(impl.Pair{A: 15, B: 15}, 6)}
	after := impl.Asn{Eqs: repeated(impl.Pair{}, 12), Nes: repeated(impl.Pair{}, 12), Segs: repeated(impl.Pair{}, 6)}
	x := triple{ahead, longProg(t, 2299), after}
	l := slices.Repeat([]triple{x}, 6)
	text := string(impl.Joined(givenOf(l)))
	if text != strings.Repeat(x.text(), 6) || len(text) != 6*2786 {
		t.Fatalf("Joined has %d bytes", len(text))
	}
	if got, want := string(impl.Report([]byte(text))), strings.Repeat(verdictBy(impl.Judge(x.given()))+"\n", 6); got != want {
		t.Errorf("Report = %q, not %q", got, want)
	}
}
