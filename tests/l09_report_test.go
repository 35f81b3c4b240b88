package tests

import (
	"math"
	"slices"
	"strings"
	"testing"

	"loop.example/g00621/impl"
)

// notVerdicts are just below and above, and far from it.
var notVerdicts = []int{-1, 5, -2, 6, -5, 255, 256, math.MinInt, math.MaxInt, 1 << 32, -(1 << 32)}

func TestVerdictText(t *testing.T) {
	for v, word := range map[int]string{impl.VdHolds: "holds", impl.VdFault: "fault", impl.VdPost: "post", impl.VdInv: "invariant", impl.VdGave: "gave up"} {
		if got := string(impl.VerdictText(v)); got != word {
			t.Errorf("VerdictText(%d) = %q", v, got)
		}
	}
	for _, v := range notVerdicts {
		if got := impl.VerdictText(v); len(got) != 0 {
			t.Errorf("VerdictText(%d) = %q", v, got)
		}
	}
}

// judgedTexts have each verdict that there is, in loops, branches and without.
var judgedTexts = []struct {
	text string
	want int
}{
	{"emp\n\nemp\n", impl.VdHolds},
	{"a..nil\n" + dispose + "\na=nil\n", impl.VdHolds},
	{"a>nil b>nil\nif a = b { free c } { free a free b }\nemp\n", impl.VdHolds},
	{"emp\nfree a\nemp\n", impl.VdFault},
	{"a..nil\n" + dispose + " free a\nemp\n", impl.VdFault},
	{"a..nil\nb := [a]\na..nil\n", impl.VdFault},
	{"emp\nfree a\na=b\n", impl.VdFault}, // ahead of what is behind
	{"emp\nnew a\nemp\n", impl.VdPost},
	{"a..nil\n" + dispose + "\na=nil b=nil\n", impl.VdPost},
	{"emp\n\na=b\n", impl.VdPost},
	{"a..b\n" + dispose + "\na=nil\n", impl.VdInv},
	{"a..nil\nwhile a ! nil ( a..nil ) { a := [a] }\na=nil\n", impl.VdInv},
	{"emp\n" + sevenNew + "\nemp\n", impl.VdGave},
	{times(12, "nil=nil") + "\na := nil\na=nil\n", impl.VdHolds}, // it is tidied ahead of there being room
	{times(12, "nil=nil") + " b>nil\na := [b]\na=b b>nil\n", impl.VdPost},
	{times(12, "a=b") + "\nif a = b { } { }\nemp\n", impl.VdGave},
	{"a>nil b>nil c>nil d>nil e..nil\nnew e new e\nemp\n", impl.VdGave},
}

func TestJudgeKnownOnes(t *testing.T) {
	for _, c := range judgedTexts {
		x, ok := impl.TripleRead([]byte(c.text))
		if !ok {
			t.Fatalf("%q is not read", c.text)
		}
		if v := impl.Judge(x); v != c.want || v != impl.Verify(x.Pre, x.Prog, x.Post) {
			t.Errorf("Judge(%q) = %d, not %d", c.text, v, c.want)
		}
		if got := checkReport(t, c.text); got != verdictBy(c.want)+"\n" {
			t.Errorf("Report(%q) = %q", c.text, got)
		}
		// What is wrong in it is asked ahead of what comes of it.
		checkNoTriple(t, "one with a name behind it", impl.Triple{Pre: x.Pre, Prog: x.Prog, Post: mustRead(t, "_1=_1")})
		checkNoTriple(t, "one with a wrong program", impl.Triple{Pre: x.Pre, Prog: wrongProgs()[0], Post: x.Post})
		checkNoTriple(t, "one without room", impl.Triple{Pre: fullAsn(5), Prog: x.Prog, Post: x.Post})
	}
}

func TestReportKnownOnes(t *testing.T) {
	for _, c := range []struct{ text, want string }{
		{"", ""},
		// Lines that are fewer than three, ended or not.
		{"\n", "unread\n"},
		{"\n\n", "unread\n"},
		{"\n\n\n", "unread\n"},
		{"\n\n\n\n", "unread\nunread\n"},
		{"x", "unread\n"},
		{"emp", "unread\n"},
		{"emp\n", "unread\n"},
		{"emp\n\n", "unread\n"},
		{"emp\nemp", "unread\n"},
		{"emp\nfree a", "unread\n"},
		{"emp\n\nemp\n", "holds\n"},
		{"emp\n\nemp", "holds\n"},             // the last one ends with the text
		{"emp\n\nemp\n\n", "holds\nunread\n"}, // an empty line behind it
		{"emp\n\nemp\nx", "holds\nunread\n"},
		{"emp\n\nemp\nemp\n", "holds\nunread\n"},
		{"emp\n\nemp\nemp\n\n", "holds\nunread\n"},
		{"emp\n\nemp\nemp\nemp", "holds\nunread\n"},
		{"emp\n\nemp\nemp\n\nemp", "holds\nholds\n"},
		{"emp\n\nemp\nemp\n\nemp\n", "holds\nholds\n"},
		{"emp\n\nemp\n\nemp\n\nemp\n", "holds\nunread\nunread\n"}, // one line too many puts all behind it elsewhere
		{"\nemp\n\nemp\n", "unread\nunread\n"},
		{"emp\n\nemp\nemp\n\nemp\nemp\n\nemp\n", "holds\nholds\nholds\n"},
		// Each verdict, and what is none among them.
		{"emp\nfree a\nemp\nx\ny\nz\nemp\n\na=b\n\n\n\na..b\n" + dispose + "\nemp\nemp\n" + sevenNew + "\nemp\nemp\n\nemp\n \n \n \na..b\n\na..b", "fault\nunread\npost\nunread\ninvariant\ngave up\nholds\nunread\nholds\n"},
		{"a>nil\nfree a\nemp\na>nil\nfree a\na>nil\n", "holds\npost\n"},
		{"a>nil\nfree a\na>nil\na>nil\nfree a\nemp\n", "post\nholds\n"},
		// What one tells is not known in the next one.
		{"emp\nnew a\na>nil\nemp\nfree a\nemp\n", "holds\nfault\n"},
		{"a>nil\n\na>nil\nemp\n\na>nil\n", "holds\npost\n"},
		// What is no triple, though its lines are near to one.
		{"emp\n\nemp\r\nemp\n\nemp\n", "unread\nholds\n"},
		{"emp \n\nemp\n", "unread\n"},
		{"emp\n \nemp\n", "unread\n"},
		{"emp\n\n_1=_1\n", "unread\n"},
		{"a=a" + strings.Repeat(" a=a", 11) + " a..b\n\nemp\nemp\n\na=a" + strings.Repeat(" a=a", 11) + " a!b\n", "unread\npost\n"},
		{"a!b a=b\n\nemp\n", "unread\n"},
		{"holds\nholds\nholds\n", "unread\n"},
		{"unread\n", "unread\n"},
		{"emp\n" + strings.Repeat("free a ", 20) + "free a\nemp\n", "unread\n"},
	} {
		if got := checkReport(t, c.text); got != c.want {
			t.Errorf("Report(%q) = %q, not %q", c.text, got, c.want)
		}
	}
	if got := impl.Report(nil); len(got) != 0 {
		t.Errorf("Report(nil) = %q", got)
	}
}

// Of so many lines that are alike each three are told, and what is left, whether the last one ends with a byte 10 or not.
func TestReportOfEachNumberOfLines(t *testing.T) {
	for _, line := range []string{"", "emp", "free a", "a=b", "x", " "} {
		for n := 1; n < 20; n++ {
			text := strings.Repeat(line+"\n", n)
			if got := checkReport(t, text); len(linesBy(got)) != (n+2)/3 {
				t.Errorf("Report of %d lines: %q", n, got)
			}
			checkReport(t, strings.TrimSuffix(text, "\n"))
			checkReport(t, text+"emp\n\nemp\nemp\n")
		}
	}
	three := []string{"emp", "", "emp"}
	for n := range 20 {
		lines := slices.Repeat(three, 7)[:n]
		text := strings.Join(lines, "\n")
		checkReport(t, text)
		want := strings.Repeat("holds\n", n/3)
		if n%3 > 0 {
			want += "unread\n"
		}
		if got := checkReport(t, text+strings.Repeat("\n", min(n, 1))); got != want {
			t.Errorf("Report of %d lines: %q", n, got)
		}
	}
}

// What stands in a line may be any byte; a byte 10 alone ends it.
func TestReportOfAnyByte(t *testing.T) {
	for c := range 256 {
		b := string([]byte{byte(c)})
		want := "unread\nholds\n"
		if c == '\n' {
			want = "unread\nunread\nunread\n"
		}
		for _, text := range []string{b + "emp\n\nemp\nemp\n\nemp\n", "emp\n" + b + "free a\nemp\nemp\n\nemp\n", "emp\nfree a" + b + "\nemp\nemp\n\nemp\n", "emp" + b + "\n\nemp\nemp\n\nemp\n", "emp\n\n" + b + "emp\nemp\n\nemp\n", "e" + b + "mp\n\nemp\nemp\n\nemp\n"} {
			if got := checkReport(t, text); got != want {
				t.Errorf("Report(%q) = %q", text, got)
			}
		}
		checkReport(t, "emp\n\nemp\n"+b)
		checkReport(t, "emp\n\nemp"+b)
		checkReport(t, b)
		checkReport(t, strings.Repeat(b, 7))
	}
}

func TestReportOfJust20000(t *testing.T) {
	const some = "emp\n\nemp\n"
	holds := func(n int) string { return strings.Repeat("holds\n", n) }
	for _, c := range []struct {
		text  string
		bytes int
		want  string
	}{
		{strings.Repeat(some, 2222), 19998, holds(2222)},
		{strings.Repeat(some, 2222) + "\n", 19999, holds(2222) + "unread\n"},
		{strings.Repeat(some, 2222) + "\n\n", 20000, holds(2222) + "unread\n"},
		{strings.Repeat(some, 2222) + "xy", 20000, holds(2222) + "unread\n"},
		{strings.Repeat(some, 2222) + "\n\n\n", 20001, ""},
		{strings.Repeat(some, 2222) + "xy\n", 20001, ""},
		{strings.Repeat(some, 2222) + "xyz", 20001, ""},
		{strings.Repeat(some, 2221) + "a..b\n\na..b\n", 20000, holds(2222)},
		{strings.Repeat(some, 2221) + "a..b\n\na..b\n\n", 20001, ""},
		{strings.Repeat(some, 2221) + "a>b\n\na..nil", 20000, holds(2221) + "post\n"},
		{strings.Repeat(some, 2221) + "a>b\n\na..nil\n", 20001, ""},
		{"\n\n" + strings.Repeat(some, 2222), 20000, strings.Repeat("unread\n", 2223)},
		{"\n\n\n" + strings.Repeat(some, 2222), 20001, ""},
		{strings.Repeat("\n", 20000), 20000, strings.Repeat("unread\n", 6667)},
		{strings.Repeat("\n", 20001), 20001, ""},
		{strings.Repeat("x", 20000), 20000, "unread\n"},
		{strings.Repeat("x", 20001), 20001, ""},
		{strings.Repeat("emp\n", 5000), 20000, strings.Repeat("unread\n", 1667)},
		{strings.Repeat("emp\n", 5000) + "\n", 20001, ""},
		{strings.Repeat(some, 20000), 180000, ""},
	} {
		if len(c.text) != c.bytes {
			t.Fatalf("%d bytes, not %d", len(c.text), c.bytes)
		}
		if got := checkReport(t, c.text); got != c.want {
			t.Errorf("Report of %d bytes that begin with %q: %d bytes", c.bytes, c.text[:9], len(got))
		}
	}
}
