package tests

import (
	"testing"

	"loop.example/g00621/impl"
)

// What README.md tells of what is known behind a program is so.
func TestReadmeOfKnowledge(t *testing.T) {
	pre, post := mustRead(t, "a..nil"), mustRead(t, "b..nil")
	turn := mustProg(t, "b := nil while a ! nil ( a..nil b..nil ) { c := [a] [a] := b b := a a := c }")
	if v := impl.Verify(pre, turn, post); v != impl.VdHolds {
		t.Errorf("Verify = %d", v)
	}
	states, v := impl.Exec(asns{pre}, mustProg(t, "if a = nil { new a } { b := [a] }"))
	if v != impl.VdHolds || wordsOfAll(states) != "a>nil; a!nil a>b b..nil" {
		t.Errorf("Exec = %q, %d", wordsOfAll(states), v)
	}
	if i := impl.Covers(states, mustState(t, "a=1 b=2 1>2 2>0")); i != 1 {
		t.Errorf("Covers = %d", i)
	}
	if l, v := impl.ExecOne(pre, freeA); v != impl.VdFault || len(l) != 0 {
		t.Errorf("ExecOne = %q, %d", wordsOfAll(l), v)
	}
	yes, ok := impl.Assume(pre, 1, 0, false)
	if !ok || wordsOfAll(yes) != "a!nil a..nil" {
		t.Fatalf("Assume = %q, %v", wordsOfAll(yes), ok)
	}
	if one, v := impl.DoCase(yes[0], freeA); v != impl.VdHolds || asnWord(one) != "a!nil _1..nil" {
		t.Errorf("DoCase = %q, %d", asnWord(one), v)
	}
	if tidy, ok := impl.Tidy(mustRead(t, "_1=a a=b b=a _2!c _1>_3")); !ok || asnWord(tidy) != "a=b a>_3" {
		t.Errorf("Tidy = %q, %v", asnWord(tidy), ok)
	}
	full := mustRead(t, times(12, "nil=nil"))
	if l, v := impl.ExecOne(full, mustCmd(t, "a := nil")); v != impl.VdHolds || wordsOfAll(l) != "a=nil" {
		t.Errorf("ExecOne of full Eqs = %q, %d", wordsOfAll(l), v)
	}
	if l, ok := impl.Assume(full, 1, 0, true); ok || len(l) != 0 {
		t.Errorf("Assume of full Eqs = %q, %v", wordsOfAll(l), ok)
	}
}
