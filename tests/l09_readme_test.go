package tests

import (
	"testing"

	"loop.example/g00621/impl"
)

// What README.md tells of triples is so.
func TestReadmeOfTriples(t *testing.T) {
	const first, second = "a..nil\nnew b [b] := a\nb..nil\n", "emp\nfree a\nemp\n"
	x, ok := impl.TripleRead([]byte(first))
	if !ok || impl.Judge(x) != impl.VdHolds || string(impl.TripleText(x)) != first {
		t.Fatalf("TripleRead(%q) = %s, %v", first, describeTriple(x), ok)
	}
	y, ok := impl.TripleRead([]byte(second))
	text := impl.Joined([]impl.Triple{x, y})
	if !ok || string(text) != first+second {
		t.Errorf("Joined = %q", text)
	}
	report := impl.Report(text)
	if string(report) != "holds\nfault\n" || impl.CountOf(report, impl.VdFault) != 1 || impl.AllHold(report) {
		t.Errorf("Report = %q", report)
	}
	if report = impl.Report([]byte("emp\n\nemp\nx\ny")); string(report) != "holds\nunread\n" {
		t.Errorf("Report = %q", report)
	}
	if word := impl.VerdictText(impl.VdInv); string(word) != "invariant" {
		t.Errorf("VerdictText = %q", word)
	}
}
