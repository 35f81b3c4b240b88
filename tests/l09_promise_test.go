package tests

import (
	"slices"
	"strings"
	"testing"

	"loop.example/g00621/impl"
)

// Promise 10: triples come back from their text.
func TestTriplesComeBack(t *testing.T) {
	var verdicts [6]int
	names, loops, long := 0, 0, 0
	drawnGiven(t, 6000, func(d *draw, x triple) {
		v := checkTriple(t, x)
		verdicts[1+v]++
		if v < 0 {
			return
		}
		back, ok := impl.TripleRead(impl.TripleText(x.given()))
		if !ok || !sameTriple(back, x.given()) || impl.Judge(back) != v {
			t.Fatalf("%s does not come back", x.words())
		}
		if len(namesThere(x.pre)) > 0 {
			names++
		}
		if impl.Loops(x.prog) > 0 {
			loops++
		}
		if len(x.text()) > 400 {
			long++
		}
	})
	if slices.Min(verdicts[:]) < 20 || min(names, loops, long) < 200 {
		t.Fatalf("verdicts from -1 on: %v; %d with names, %d with loops, %d long ones", verdicts, names, loops, long)
	}
}

// bentTriple has one byte gone, doubled or another one, two lines in another order, or words of a line bent.
func (d *draw) bentTriple(text string) string {
	lines := strings.Split(text, "\n")
	i, j := d.below(len(lines)), d.below(len(lines))
	at := d.below(len(text))
	switch d.below(7) {
	case 0:
		lines[i], lines[j] = lines[j], lines[i]
	case 1:
		lines = slices.Insert(lines, i, lines[j])
	case 2:
		lines = slices.Delete(lines, i, i+1)
	case 3:
		return text[:at] + text[at+1:]
	case 4:
		return text[:at] + text[at:at+1] + text[at:]
	case 5:
		signs := " \nabe_1=!>.nil(){}[]:\x00\xff"
		k := d.below(len(signs))
		return text[:at] + signs[k:k+1] + text[at+1:]
	default:
		lines[i] = d.bentText(lines[i])
	}
	return strings.Join(lines, "\n")
}

// Promise 10: whatever text is read as a triple is just its.
func TestWhatIsReadIsATriplesText(t *testing.T) {
	yes, no := 0, 0
	drawnGiven(t, 3000, func(d *draw, x triple) {
		for range 5 {
			if checkTripleRead(t, d.bentTriple(x.text())) {
				yes++
			} else {
				no++
			}
		}
	})
	if min(yes, no) < 1000 {
		t.Fatalf("%d are read, %d are not", yes, no)
	}
}

// drawnLists hands out up to so many drawn triples that are right, at once.
func drawnLists(t *testing.T, n, most int, do func(d *draw, l []triple)) {
	t.Helper()
	var all []triple
	drawnGiven(t, 2000, func(d *draw, x triple) {
		if tripleOkBy(x) {
			all = append(all, x)
		}
	})
	d := draw(23)
	for range n {
		l := make([]triple, d.below(most+1))
		for i := range l {
			l[i] = all[d.below(len(all))]
		}
		do(&d, l)
	}
}

// Promise 10: a report of triples, one behind the other, tells the verdict of each in order, and as many of each are told as there are.
func TestAReportTellsEachVerdict(t *testing.T) {
	held := 0
	drawnLists(t, 1500, 6, func(d *draw, l []triple) {
		text := impl.Joined(givenOf(l))
		want, alone := "", ""
		var counts [5]int
		for _, x := range l {
			v := impl.Judge(x.given())
			counts[v]++
			want += verdictBy(v) + "\n"
			alone += string(impl.Report(impl.TripleText(x.given())))
		}
		report := impl.Report(text)
		if string(report) != want || alone != want {
			t.Fatalf("Report(%q) = %q, not %q", text, report, want)
		}
		for v, n := range counts {
			if got := impl.CountOf(report, v); got != n {
				t.Fatalf("CountOf(%q, %d) = %d, not %d", report, v, got, n)
			}
		}
		all := impl.AllHold(report)
		if all != (counts[impl.VdHolds] == len(l)) {
			t.Fatalf("AllHold(%q) = %v", report, all)
		}
		if all {
			held++
		}
		// The last byte 10 may be wanting.
		if got := impl.Report([]byte(strings.TrimSuffix(string(text), "\n"))); string(got) != want {
			t.Fatalf("Report(%q) without the last byte = %q", text, got)
		}
	})
	if held < 200 {
		t.Fatalf("all hold in %d", held)
	}
}

// Three lines that are no triple stand among others: each is told alone.
func TestAReportGoesOnBehindWhatIsUnread(t *testing.T) {
	bad := []string{"\n\n\n", "x\ny\nz\n", "emp\nemp\nemp\n", "emp\n\n_1=a\n", " emp\n\nemp\n", "emp\nfree a \nemp\n", strings.Repeat("a", 3500) + "\n\nemp\n", "\x00\xff\n\r\n\t\n", "holds\nholds\nholds\n"}
	unread := 0
	drawnLists(t, 600, 12, func(d *draw, l []triple) {
		text, want := "", ""
		for _, x := range l {
			if d.below(3) == 0 {
				text += bad[d.below(len(bad))]
				want += "unread\n"
				unread++
			}
			text += x.text()
			want += verdictBy(impl.Judge(x.given())) + "\n"
		}
		if len(text) > 20000 {
			want = ""
		}
		if got := string(impl.Report([]byte(text))); got != want {
			t.Fatalf("Report(%q) = %q, not %q", text, got, want)
		}
		checkCounts(t, want)
		if n := impl.CountOf([]byte(want), impl.VdHolds); n != strings.Count(want, "holds") {
			t.Fatalf("CountOf(%q) = %d", want, n)
		}
	})
	if unread < 500 {
		t.Fatalf("%d are unread", unread)
	}
}

// One line gone, doubled or bent puts what is behind it elsewhere.
func TestReportsByAnotherWay(t *testing.T) {
	told := map[string]int{}
	drawnLists(t, 500, 5, func(d *draw, l []triple) {
		text := ""
		for _, x := range l {
			text += x.text()
		}
		for range 1 + d.below(2) {
			if text != "" {
				text = d.bentTriple(text)
			}
		}
		for _, line := range linesBy(checkReport(t, text)) {
			told[line]++
		}
	})
	for _, word := range []string{"holds", "fault", "post", "invariant", "unread"} {
		if told[word] < 40 {
			t.Fatalf("told are %v", told)
		}
	}
}

// What holds in a report never fails where it is begun right, and ends right.
func TestWhatHoldsInAReportNeverFails(t *testing.T) {
	ended := 0
	drawnTriples(t, 2000, func(d *draw, x triple) {
		if !tripleOkBy(x) || !impl.AllHold(impl.Report(impl.TripleText(x.given()))) {
			return
		}
		ended += checkProved(t, d, x)
	})
	if ended < 300 {
		t.Fatalf("%d come to an end", ended)
	}
}
