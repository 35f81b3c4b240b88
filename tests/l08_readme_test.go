package tests

import (
	"testing"

	"loop.example/g00621/impl"
)

// What README.md tells of what a program wants is so.
func TestReadmeOfWhatIsWanted(t *testing.T) {
	l := mustProg(t, "b := [a] [b] := nil free a")
	if a, ok := impl.Missing(l); !ok || asnWord(a) != "a>_1 _1>_2" {
		t.Errorf("Missing = %s, %v", describe(a), ok)
	}
	if pre, states, v := impl.Infer(l); v != impl.VdHolds || asnWord(pre) != "a>_1 _1>_2" || wordsOfAll(states) != "b>nil" {
		t.Errorf("Infer = %s, %q, %d", describe(pre), wordsOfAll(states), v)
	}
	if i := impl.Needless(mustRead(t, "a>b b>c c>nil"), l); i != 2 {
		t.Errorf("Needless = %d", i)
	}
	pre, extra := mustRead(t, "a>nil"), mustRead(t, "d..e")
	if v := impl.Framed(pre, cmds{freeA}, impl.Asn{}, extra); v != impl.VdHolds {
		t.Errorf("Framed = %d", v)
	}
	if i := impl.Needless(impl.Asn{}, l); i != -2 {
		t.Errorf("Needless = %d", i)
	}
	if v := impl.Framed(pre, mustProg(t, "d := nil"), pre, extra); v != -1 {
		t.Errorf("Framed = %d", v)
	}
	list := mustRead(t, "a..nil")
	for extra, want := range map[string]int{"emp": impl.VdHolds, "d>nil": impl.VdInv} {
		if v := impl.Framed(list, mustProg(t, dispose), mustRead(t, "a=nil"), mustRead(t, extra)); v != want {
			t.Errorf("Framed beside %s = %d", extra, v)
		}
	}
}
