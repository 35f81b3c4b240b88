package tests

import (
	"slices"
	"testing"

	"loop.example/g00621/impl"
)

// What README.md tells of programs is so.
func TestReadmeOfPrograms(t *testing.T) {
	text := "new b [b] := a while a ! nil ( a..nil ) { a := [a] }"
	l, ok := impl.ProgRead([]byte(text))
	if !ok || string(impl.ProgText(l)) != text {
		t.Fatalf("ProgRead(%q) = %s, %v", text, describeProg(l), ok)
	}
	if impl.Size(l) != 4 || impl.Deep(l) != 2 || impl.Loops(l) != 1 || !slices.Equal(impl.Changes(l), []int{1, 2}) {
		t.Errorf("Size %d, Deep %d, Loops %d, Changes %v", impl.Size(l), impl.Deep(l), impl.Loops(l), impl.Changes(l))
	}
	s := impl.State{Terms: make([]int, impl.Terms), Heap: []int{-1, 2, 0, -1, -1, -1, -1}}
	s.Terms[1] = 1
	is := func(what string, out impl.State, code int, want string, wanted int) {
		t.Helper()
		if code != wanted || !sameState(out, mustState(t, want)) {
			t.Errorf("%s: %s, %d", what, describeState(out), code)
		}
	}
	is("the state", s, impl.RsDone, "a=1 1>2 2>0", impl.RsDone)
	x, code := impl.Run(s, l, []int{3}, 50)
	is("with a pick", x, code, "b=4 1>2 2>0 4>1", impl.RsDone)
	x, code = impl.Run(s, l, nil, 3)
	is("without fuel for a turn", x, code, "a=1 b=3 1>2 2>0 3>1", impl.RsFuel)
	y, code := impl.Step(s, impl.Cmd{Kind: impl.CmFree, X: 2}, 0)
	is("free of nil", y, code, "a=1 1>2 2>0", impl.RsFault)
}
