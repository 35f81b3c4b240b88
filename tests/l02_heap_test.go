package tests

import (
	"fmt"
	"math"
	"slices"
	"strings"
	"testing"

	"loop.example/g00621/impl"
)

func TestAddrs(t *testing.T) {
	if impl.Addrs != 6 {
		t.Fatal("the limit is not that of the document")
	}
}

func TestStateOk(t *testing.T) {
	for _, s := range append(drawnStates(500), impl.State{Terms: termsWith(), Heap: heapWith()}, impl.State{Terms: termsWith(6, 6, 6, 6, 6, 6, 6, 6, 6, 6, 6, 6, 6, 6, 6), Heap: heapWith(6, 6, 6, 6, 6, 6)}) {
		if !impl.StateOk(s) {
			t.Errorf("not StateOk(%s)", describeState(s))
		}
	}
	for _, s := range wrongStates() {
		if impl.StateOk(s) {
			t.Errorf("StateOk(%s)", describeState(s))
		}
	}
}

func TestStateOkPlaceByPlace(t *testing.T) {
	for x := -3; x <= impl.Addrs+3; x++ {
		for i := range impl.Terms {
			s := mustState(t, "a=1 1>2")
			s.Terms[i] = x
			if want := x == 0 || i > 0 && x >= 1 && x <= 6; impl.StateOk(s) != want {
				t.Errorf("StateOk with %d for the term %d", x, i)
			}
		}
		for i := range impl.Addrs + 1 {
			s := mustState(t, "a=1 1>2")
			s.Heap[i] = x
			if want := x == -1 || i > 0 && x >= 0 && x <= 6; impl.StateOk(s) != want {
				t.Errorf("StateOk with %d at %d", x, i)
			}
		}
	}
	for n := range 40 {
		if l := make([]int, n); impl.StateOk(impl.State{Terms: l, Heap: heapWith()}) != (n == 16) {
			t.Errorf("StateOk with %d terms", n)
		}
		if l := slices.Repeat([]int{gone}, n); impl.StateOk(impl.State{Terms: termsWith(), Heap: l}) != (n == 7) {
			t.Errorf("StateOk with a heap of %d", n)
		}
	}
}

func TestDomain(t *testing.T) {
	for set := range 1 << impl.Addrs {
		for _, y := range []int{0, 1, 6} {
			var want []int
			s := mustState(t, "a=1")
			for x := range impl.Addrs {
				if set>>x&1 == 1 {
					want = append(want, x+1)
					s.Heap[x+1] = y
				}
			}
			if l := impl.Domain(s); !slices.Equal(l, want) {
				t.Errorf("Domain(%s) = %v", describeState(s), l)
			}
		}
	}
	for _, s := range wrongStates() {
		if l := impl.Domain(s); len(l) != 0 {
			t.Errorf("Domain(%s) = %v", describeState(s), l)
		}
	}
}

func TestSegOfKnownOnes(t *testing.T) {
	for _, c := range []struct {
		state    string
		from, to int
		want     []int
		ok       bool
	}{
		{"1>2 2>3 3>0", 1, 3, []int{1, 2}, true},
		{"1>2 2>3 3>0", 1, 0, []int{1, 2, 3}, true},
		{"1>2 2>3 3>0", 2, 3, []int{2}, true},
		{"1>2 2>3 3>0", 3, 1, nil, false},
		{"1>2 2>3 3>0", 1, 4, nil, false},
		{"1>2 2>3 3>0", 0, 1, nil, false},
		{"1>2 2>3 3>4", 1, 4, []int{1, 2, 3}, true}, // its end need not be there
		{"1>2 2>3 3>4", 1, 0, nil, false},           // it comes where nothing is
		{"1>2 2>1", 1, 0, nil, false},               // it goes round
		{"1>2 2>1", 1, 2, []int{1}, true},
		{"1>2 2>1", 1, 1, nil, true},
		{"1>1", 1, 0, nil, false},
		{"1>1", 1, 1, nil, true},
		{"1>2 2>3 3>2", 1, 3, []int{1, 2}, true},
		{"1>2 2>3 3>2", 1, 4, nil, false}, // it goes round, but not to where it began
		{"1>2 2>3 3>2", 2, 1, nil, false},
		{"", 0, 0, nil, true},
		{"", 6, 6, nil, true},
		{"", 6, 0, nil, false},
		{"", 0, 6, nil, false},
		{"6>5 5>4 4>3 3>2 2>1 1>0", 6, 0, []int{6, 5, 4, 3, 2, 1}, true},
		{"1>2 2>3 3>4 4>5 5>6 6>1", 1, 6, []int{1, 2, 3, 4, 5}, true},
		{"1>2 2>3 3>4 4>5 5>6 6>1", 1, 0, nil, false},
		{"1>2 2>3 3>4 4>5 5>6 6>1", 4, 3, []int{4, 5, 6, 1, 2}, true},
	} {
		s := mustState(t, c.state)
		if l, ok := impl.SegOf(s, c.from, c.to); !slices.Equal(l, c.want) || ok != c.ok {
			t.Errorf("SegOf(%q, %d, %d) = %v, %v", c.state, c.from, c.to, l, ok)
		}
		if impl.Reaches(s, c.from, c.to) != c.ok {
			t.Errorf("Reaches(%q, %d, %d)", c.state, c.from, c.to)
		}
	}
}

// checkWay holds a way to the promise: from one to the next, each once, its end not on it.
func checkWay(t *testing.T, s impl.State, from, to int) {
	t.Helper()
	want, fine := wayBy(s.Heap, from, to)
	l, ok := impl.SegOf(s, from, to)
	if ok != fine || !slices.Equal(l, want) || impl.Reaches(s, from, to) != ok {
		t.Fatalf("SegOf(%s, %d, %d) = %v, %v", describeState(s), from, to, l, ok)
	}
	if !ok {
		return
	}
	x := from
	for i, y := range l {
		if y != x || y == to || slices.Contains(l[:i], y) {
			t.Fatalf("SegOf(%s, %d, %d) = %v", describeState(s), from, to, l)
		}
		if x, ok = impl.Next(s, y); !ok {
			t.Fatalf("Next(%s, %d)", describeState(s), y)
		}
	}
	if x != to {
		t.Fatalf("SegOf(%s, %d, %d) = %v ends at %d", describeState(s), from, to, l, x)
	}
}

func TestWaysGoThroughEachOnce(t *testing.T) {
	for _, s := range drawnStates(2000) {
		for from := range impl.Addrs + 1 {
			for to := range impl.Addrs + 1 {
				checkWay(t, s, from, to)
			}
		}
	}
	smallStates(func(s impl.State) {
		for from := range 5 {
			for to := range 5 {
				checkWay(t, s, from, to)
			}
		}
	})
}

func TestSegOfRefuses(t *testing.T) {
	refuses := func(s impl.State, from, to int) {
		t.Helper()
		if l, ok := impl.SegOf(s, from, to); ok || len(l) != 0 || impl.Reaches(s, from, to) {
			t.Errorf("SegOf(%s, %d, %d) = %v, %v", describeState(s), from, to, l, ok)
		}
	}
	for _, s := range drawnStates(20) {
		for _, x := range wrongPlacesOfHeap {
			refuses(s, x, x) // they are alike, and yet not in 0 .. Addrs
			for y := range impl.Addrs + 1 {
				refuses(s, x, y)
				refuses(s, y, x)
			}
		}
	}
	for _, s := range wrongStates() {
		refuses(s, 1, 1)
		refuses(s, 0, 0)
		refuses(s, 1, 2)
		refuses(s, 1, 0)
		refuses(s, -1, 7)
	}
}

func TestHoldsKnownOnes(t *testing.T) {
	for state, asns := range map[string]string{
		"":                        "emp; a=b; a=nil; nil=nil; a..b; a..nil a..nil; nil..nil; ~a!b; ~nil!nil; ~a>nil; ~a>a; ~nil>nil",
		"a=1":                     "emp; a!nil; a..a; a..a a..a; ~a..nil; ~nil..a; ~a>nil; ~a=nil",
		"a=1 1>0":                 "a>nil; a..nil; a>b; a..b; a>nil b..nil; a>nil a..a; ~emp; ~a..a; ~a=a; ~a>a; ~a>nil a>nil; ~a>nil a..nil; ~a..nil a..nil",
		"1>0":                     "~emp; ~a>nil; ~a..nil; ~nil>nil",
		"a=1 b=3 1>2 2>3 3>0":     "b>nil a..b; a!b a..nil; a..b b..nil; ~a..b; ~b>nil a..nil; ~a=b a..nil; ~a..nil b..nil; ~b..nil",
		"a=1 b=2 1>2 2>1":         "a>b b>a; a>b b..a; a..b b..a; b>a a..b; ~a..a; ~a..b; ~a..nil; ~a>b; ~a..b b..a a..b",
		"a=1 1>1":                 "a>a; a>a a..a; ~a..a; ~a..nil; ~emp",
		"a=1 b=1 c=2 1>2":         "a>c; b>c; b..c; a=b a..c; a=b b!c b>c; ~a>c b>c; ~a..c b..c; ~a!b a>c; ~a=c a>c; ~a>nil; ~c>nil; ~c>a",
		"a=1 b=2 c=3 1>3 2>3":     "a>c b>c; a..c b..c; b>c a..c; ~a>c; ~a..c; ~a>c b>a",
		"a=1 b=2 c=3 1>3 2>3 3>0": "a>c b>c c>nil; a>c b..nil; a..c b..nil; ~a..nil b..nil; ~a..c b..c",
		"a=6 6>6":                 "a>a; ~a>nil",
		"a=6 b=5 6>5 5>0":         "a..nil; a>b b>nil; ~b..nil; ~a..b",
		"a=1 b=2 c=3 d=4 e=5 1>2 2>3 3>4 4>5 5>6 6>0": "a..nil; a..e e..nil; a>b b>c c>d d>e e..nil; ~a..e; ~a>b b>c c>d d>e",
	} {
		s := mustState(t, state)
		for _, w := range strings.Split(asns, "; ") {
			text, no := strings.CutPrefix(w, "~")
			words := strings.Fields(text)
			order := func(w string) int {
				return slices.IndexFunc([]string{"=", "!", ">", ".."}, func(m string) bool { return strings.Contains(w, m) })
			}
			slices.SortStableFunc(words, func(x, y string) int { return order(x) - order(y) })
			a := mustRead(t, strings.Join(words, " "))
			if impl.Holds(s, a) == no || holdsBy(s, a) == no {
				t.Errorf("Holds(%q, %q) = %v", state, text, no)
			}
		}
	}
}

// An assertion that names each address has a piece for it, or there is one too few.
func TestHoldsAsManyPiecesAsThereAre(t *testing.T) {
	s := impl.State{Terms: termsWith(1, 2, 3, 4, 5, 6), Heap: heapWith(0, 0, 0, 0, 0, 0)}
	var a impl.Asn
	for x := 1; x <= impl.Addrs; x++ {
		if impl.Holds(s, a) {
			t.Errorf("Holds with %d cells", x-1)
		}
		a.Cells = append(a.Cells, impl.Pair{A: x})
	}
	if !impl.Holds(s, a) {
		t.Error("not Holds with all cells")
	}
	for i := range a.Cells {
		b, _ := impl.Without(a, 2, i)
		b.Cells = append(b.Cells, b.Cells[0])
		if impl.Holds(s, b) {
			t.Error("Holds with one cell twice, and one not there")
		}
	}
}

func TestHoldsInSmallStates(t *testing.T) {
	words := []string{"emp", "a=b", "a!b", "a=nil", "b!nil", "a>nil", "a>b", "a>a", "b>a", "nil>a", "a..nil", "a..b", "b..a", "b..nil", "a..a", "nil..a", "nil..nil"}
	var asns []impl.Asn
	for _, v := range words {
		for _, w := range words {
			for _, x := range words {
				a, _ := impl.Star(mustRead(t, v), mustRead(t, w))
				a, _ = impl.Star(a, mustRead(t, x))
				asns = append(asns, a)
			}
		}
	}
	held := 0
	i := 0
	smallStates(func(s impl.State) {
		i++
		for j := i % 7; j < len(asns); j += 7 {
			want := holdsBy(s, asns[j])
			if impl.Holds(s, asns[j]) != want {
				t.Fatalf("Holds(%s, %q) = %v", describeState(s), asnWord(asns[j]), !want)
			}
			if want {
				held++
			}
		}
	})
	if held < 1000 {
		t.Fatalf("only %d hold", held)
	}
}

// drawnHolds hands out drawn states, each with an assertion that holds or nearly does.
func drawnHolds(t *testing.T, n int, do func(d *draw, s impl.State, a impl.Asn)) {
	t.Helper()
	d := draw(3)
	held := 0
	for i := range n {
		s := d.state()
		a := d.asnAbout(s)
		if i%3 == 2 {
			a = d.bent(a)
		}
		if !impl.AsnOk(a) {
			continue
		}
		want := holdsBy(s, a)
		if impl.Holds(s, a) != want {
			t.Fatalf("Holds(%s, %q) = %v", describeState(s), asnWord(a), !want)
		}
		if want {
			held++
		}
		do(&d, s, a)
	}
	if held < n/4 || held > n*7/8 {
		t.Fatalf("%d of %d hold", held, n)
	}
}

func TestHoldsRefuses(t *testing.T) {
	drawnHolds(t, 200, func(d *draw, s impl.State, a impl.Asn) {
		x := wrongStates()[d.below(len(wrongStates()))]
		b := wrongAsns()[d.below(len(wrongAsns()))]
		if impl.Holds(x, a) || impl.Holds(s, b) || impl.Holds(x, b) {
			t.Fatal("Holds of what is not ok")
		}
	})
	empty := impl.State{Terms: termsWith(), Heap: heapWith()}
	for _, s := range wrongStates() {
		if impl.Holds(s, impl.Asn{}) {
			t.Errorf("Holds(%s, emp)", describeState(s))
		}
	}
	same := impl.Pair{A: 1, B: 2}
	for _, a := range []impl.Asn{{Eqs: repeated(same, impl.MaxPure)}, {Segs: repeated(same, impl.MaxSpace)}} {
		if !impl.Holds(empty, a) {
			t.Errorf("not Holds with a limit that is met: %s", asnWord(a))
		}
	}
	for _, a := range append(wrongAsns(), impl.Asn{Eqs: repeated(same, impl.MaxPure+1)}, impl.Asn{Segs: repeated(same, impl.MaxSpace+1)}) {
		if impl.Holds(empty, a) {
			t.Errorf("Holds(%s)", describe(a))
		}
	}
}

// canBeParted tries every part of the heap for a, with all else for b.
func canBeParted(t *testing.T, s impl.State, a, b impl.Asn) bool {
	t.Helper()
	all := impl.Domain(s)
	for set := range 1 << len(all) {
		var x, y []int
		for i, at := range all {
			if set>>i&1 == 1 {
				x = append(x, at)
			} else {
				y = append(y, at)
			}
		}
		l, ok := impl.Part(s, x)
		r, fine := impl.Part(s, y)
		if !ok || !fine {
			t.Fatalf("Part(%s)", describeState(s))
		}
		if impl.Holds(l, a) && impl.Holds(r, b) {
			return true
		}
	}
	return false
}

// dealt gives each pair of a to one of two.
func (d *draw) dealt(a impl.Asn) (impl.Asn, impl.Asn) {
	var x, y [kinds]pairs
	for k, l := range listsOf(a) {
		for _, p := range l {
			if d.below(2) == 0 {
				x[k] = append(x[k], p)
			} else {
				y[k] = append(y[k], p)
			}
		}
	}
	return asnOf(x), asnOf(y)
}

func TestBesideEachOther(t *testing.T) {
	drawnHolds(t, 3000, func(d *draw, s impl.State, a impl.Asn) {
		x, y := d.dealt(a)
		both, ok := impl.Star(x, y)
		if !ok {
			t.Fatalf("Star(%s, %s)", asnWord(x), asnWord(y))
		}
		parted := canBeParted(t, s, x, y)
		if impl.Holds(s, both) != parted || impl.Holds(s, a) != parted {
			t.Fatalf("Holds(%s, %q): %v, but %q and %q of parts: %v", describeState(s), asnWord(both), !parted, asnWord(x), asnWord(y), parted)
		}
	})
}

func TestInOrderTheyHoldWhereTheyDid(t *testing.T) {
	drawnHolds(t, 3000, func(_ *draw, s impl.State, a impl.Asn) {
		b, ok := impl.Sorted(a)
		if !ok || impl.Holds(s, b) != impl.Holds(s, a) {
			t.Fatalf("Sorted(%s) = %s, %v in %s", asnWord(a), asnWord(b), ok, describeState(s))
		}
	})
}

func TestSubstHoldsWhereTheOneIsAsTheOther(t *testing.T) {
	alike := 0
	drawnHolds(t, 2000, func(d *draw, s impl.State, a impl.Asn) {
		for x := 1; x < impl.Terms; x++ {
			by := d.below(impl.Terms)
			if same := d.termAt(s, s.Terms[x]); d.below(2) == 0 {
				by = same
			}
			b, ok := impl.Subst(a, x, by)
			if !ok {
				t.Fatalf("Subst(%s, %d, %d)", asnWord(a), x, by)
			}
			// Where by is put for x, it holds in s just where a does with x as by.
			as := cloneState(s)
			as.Terms[x] = s.Terms[by]
			if impl.Holds(s, b) != impl.Holds(as, a) {
				t.Fatalf("Subst(%s, %d, %d) = %s in %s", asnWord(a), x, by, asnWord(b), describeState(s))
			}
			if s.Terms[x] == s.Terms[by] && impl.Holds(s, a) && impl.Holds(s, b) {
				alike++
			}
		}
	})
	if alike < 1000 {
		t.Fatalf("only %d were seen", alike)
	}
}

func TestApart(t *testing.T) {
	for x := range 1 << impl.Addrs {
		for y := range 1 << impl.Addrs {
			l, r := heapWith(), heapWith()
			for i := range impl.Addrs {
				if x>>i&1 == 1 {
					l[i+1] = (x + i) % 7
				}
				if y>>i&1 == 1 {
					r[i+1] = (y + 3*i) % 7
				}
			}
			if impl.Apart(l, r) != (x&y == 0) {
				t.Fatalf("Apart(%v, %v)", l, r)
			}
		}
	}
	for _, w := range wrongHeaps() {
		for _, l := range [][]int{heapWith(), heapWith(1), heapWith(1, 2, 3, 4, 5, 6), w} {
			if impl.Apart(w, l) || impl.Apart(l, w) {
				t.Errorf("Apart(%v, %v)", w, l)
			}
		}
	}
}

// What is apart is one, of which each is a part.
func TestUnionHasBothAsParts(t *testing.T) {
	d := draw(5)
	united := 0
	for range 5000 {
		s, h := d.state(), d.heap()
		u, ok := impl.Union(s, h)
		if ok != impl.Apart(s.Heap, h) {
			t.Fatalf("Union(%s, %v) = %v", describeState(s), h, ok)
		}
		if !ok {
			if !isZeroState(u) {
				t.Fatalf("Union(%s, %v) = %s", describeState(s), h, describeState(u))
			}
			continue
		}
		united++
		one, _ := impl.Part(u, impl.Domain(s))
		other, _ := impl.Part(u, domainBy(h))
		if !sameState(one, s) || !slices.Equal(other.Heap, h) || !slices.Equal(other.Terms, s.Terms) || !slices.Equal(u.Terms, s.Terms) {
			t.Fatalf("Union(%s, %v) = %s", describeState(s), h, describeState(u))
		}
		if n := len(impl.Domain(u)); n != len(domainBy(s.Heap))+len(domainBy(h)) {
			t.Fatalf("Union(%s, %v) has %d", describeState(s), h, n)
		}
		back, ok := impl.Union(one, other.Heap)
		swapped, fine := impl.Union(other, one.Heap)
		if !ok || !fine || !sameState(back, u) || !sameState(swapped, u) {
			t.Fatalf("the parts of %s are not it", describeState(u))
		}
	}
	if united < 200 {
		t.Fatalf("only %d are apart", united)
	}
}

func TestUnionEdges(t *testing.T) {
	s := mustState(t, "a=1 b=6 1>2 3>0")
	for _, c := range []struct {
		heap []int
		want string
	}{
		{heapWith(), "a=1 b=6 1>2 3>0"},
		{heapWith(gone, 3), "a=1 b=6 1>2 2>3 3>0"},
		{heapWith(gone, gone, gone, gone, gone, 6), "a=1 b=6 1>2 3>0 6>6"},
		{heapWith(gone, 0, gone, 1, 2, 3), "a=1 b=6 1>2 2>0 3>0 4>1 5>2 6>3"},
	} {
		if u, ok := impl.Union(s, c.heap); !ok || !sameState(u, mustState(t, c.want)) {
			t.Errorf("Union with %v = %s, %v", c.heap, describeState(u), ok)
		}
	}
	refuses := func(s impl.State, h []int) {
		t.Helper()
		if u, ok := impl.Union(s, h); ok || !isZeroState(u) {
			t.Errorf("Union(%s, %v) = %s, %v", describeState(s), h, describeState(u), ok)
		}
	}
	refuses(s, s.Heap)
	refuses(s, heapWith(gone, gone, 0))
	refuses(s, heapWith(2))
	for _, w := range wrongHeaps() {
		refuses(s, w)
		refuses(mustState(t, ""), w)
	}
	for _, w := range wrongStates() {
		refuses(w, heapWith())
		refuses(w, w.Heap)
	}
}

func TestPart(t *testing.T) {
	for i, s := range drawnStates(500) {
		var l []int
		want := cloneState(s)
		for x := range impl.Addrs + 1 {
			if (i*37+11)>>x&1 == 1 {
				l = append(l, x)
			} else {
				want.Heap[x] = gone
			}
		}
		// Neither their order, nor how often they stand there, nor what is no address, tells.
		for _, m := range [][]int{l, append(slices.Clone(l), l...), append([]int{-1, 7, 0, math.MaxInt, math.MinInt}, l...), reversed(l)} {
			p, ok := impl.Part(s, m)
			if !ok || !sameState(p, want) {
				t.Fatalf("Part(%s, %v) = %s, %v", describeState(s), m, describeState(p), ok)
			}
		}
	}
	s := mustState(t, "a=1 b=3 1>2 2>3 3>0")
	for text, l := range map[string][]int{
		"a=1 b=3":             nil,
		"a=1 b=3 3>0":         {3},
		"a=1 b=3 1>2":         {4, 1, 5, 6},
		"a=1 b=3 1>2 2>3 3>0": {1, 2, 3},
	} {
		if p, ok := impl.Part(s, l); !ok || !sameState(p, mustState(t, text)) {
			t.Errorf("Part(%v) = %s, %v", l, describeState(p), ok)
		}
	}
}

func reversed(l []int) []int {
	l = slices.Clone(l)
	slices.Reverse(l)
	return l
}

func TestPartLimits(t *testing.T) {
	s := mustState(t, "a=1 b=3 1>2 2>3 3>0")
	for _, x := range []int{0, 1, 2, 7, -1} {
		l := append(slices.Repeat([]int{x}, 99), 3)
		p, ok := impl.Part(s, l)
		want := mustState(t, "a=1 b=3 3>0")
		if x == 1 || x == 2 {
			want.Heap[x] = s.Heap[x]
		}
		if !ok || !sameState(p, want) {
			t.Errorf("Part with 100 addresses = %s, %v", describeState(p), ok)
		}
		for _, n := range []int{101, 102, 5000} {
			if p, ok = impl.Part(s, slices.Repeat([]int{x}, n)); ok || !isZeroState(p) {
				t.Errorf("Part with %d addresses = %s, %v", n, describeState(p), ok)
			}
		}
	}
	for _, w := range wrongStates() {
		for _, l := range [][]int{nil, {1}, {1, 2, 3, 4, 5, 6}, slices.Repeat([]int{1}, 101)} {
			if p, ok := impl.Part(w, l); ok || !isZeroState(p) {
				t.Errorf("Part(%s, %v) = %s, %v", describeState(w), l, describeState(p), ok)
			}
		}
	}
}

func TestStateText(t *testing.T) {
	for text, s := range map[string]impl.State{
		"a=1 b=3 c=0 d=0 e=0 1>2 2>3 3>0":             {Terms: termsWith(1, 3), Heap: heapWith(2, 3, 0)},
		"a=0 b=0 c=0 d=0 e=0":                         {Terms: termsWith(), Heap: heapWith()},
		"a=0 b=0 c=0 d=0 e=6":                         {Terms: termsWith(0, 0, 0, 0, 6, 1, 2), Heap: heapWith()},
		"a=5 b=4 c=3 d=2 e=1 6>0":                     {Terms: termsWith(5, 4, 3, 2, 1), Heap: heapWith(gone, gone, gone, gone, gone, 0)},
		"a=6 b=6 c=6 d=6 e=6 1>6 2>5 3>4 4>3 5>2 6>1": {Terms: termsWith(6, 6, 6, 6, 6, 6, 6, 6, 6, 6, 6, 6, 6, 6, 6), Heap: heapWith(6, 5, 4, 3, 2, 1)},
	} {
		if b := impl.StateText(s); string(b) != text {
			t.Errorf("StateText = %q, not %q", b, text)
		}
	}
	for _, s := range drawnStates(500) {
		want := ""
		for x := 1; x <= 5; x++ {
			want += fmt.Sprintf(" %c=%d", 'a'+x-1, s.Terms[x])
		}
		for _, x := range domainBy(s.Heap) {
			want += fmt.Sprintf(" %d>%d", x, s.Heap[x])
		}
		b := impl.StateText(s)
		if string(b) != want[1:] {
			t.Errorf("StateText(%s) = %q", describeState(s), b)
		}
		for i := range b[:cap(b)] {
			b[:cap(b)][i] = '#'
		}
		if string(impl.StateText(s)) != want[1:] {
			t.Errorf("StateText(%s) is kept", describeState(s))
		}
	}
	for _, s := range wrongStates() {
		if b := impl.StateText(s); len(b) != 0 {
			t.Errorf("StateText(%s) = %q", describeState(s), b)
		}
	}
}

func TestNext(t *testing.T) {
	for _, s := range append(drawnStates(200), mustState(t, ""), mustState(t, "6>6 1>0")) {
		for x, want := range s.Heap {
			y, ok := impl.Next(s, x)
			if ok != (want != gone) || ok && y != want || !ok && y != 0 {
				t.Errorf("Next(%s, %d) = %d, %v", describeState(s), x, y, ok)
			}
		}
		for _, x := range wrongPlacesOfHeap {
			if y, ok := impl.Next(s, x); ok || y != 0 {
				t.Errorf("Next(%s, %d) = %d, %v", describeState(s), x, y, ok)
			}
		}
	}
	for _, s := range wrongStates() {
		for x := -1; x <= impl.Addrs+1; x++ {
			if y, ok := impl.Next(s, x); ok || y != 0 {
				t.Errorf("Next(%s, %d) = %d, %v", describeState(s), x, y, ok)
			}
		}
	}
}

func TestLoose(t *testing.T) {
	for text, want := range map[string][]int{
		"":                                nil, // all are 0, which is no address
		"a=1":                             {1},
		"a=1 1>2":                         nil, // that something has it does not make it one that a term is
		"a=1 1>2 b=2":                     {2},
		"a=6 b=3 c=6 d=3 e=1":             {1, 3, 6},
		"a=6 b=3 c=6 d=3 e=1 3>6":         {1, 6},
		"a=5 b=4 c=3 d=2 e=1 6>6":         {1, 2, 3, 4, 5},
		"a=1 b=2 c=3 1>0 2>0 3>0 4>5":     nil,
		"a=1 b=2 c=3 d=4 e=5 1>1 3>3":     {2, 4, 5},
		"1>0 2>0 3>0 4>0 5>0 6>0 a=1":     nil,
		"1>0 2>0 3>0 4>0 5>0 a=1 b=6":     {6},
		"2>0 3>0 4>0 5>0 6>0 a=1 b=2":     {1},
		"2>0 3>0 4>0 5>0 6>0 b=2 c=3 d=4": nil,
	} {
		if l := impl.Loose(mustState(t, text)); !slices.Equal(l, want) {
			t.Errorf("Loose(%q) = %v", text, l)
		}
	}
	for _, s := range drawnStates(1000) {
		var want []int
		for x := 1; x <= impl.Addrs; x++ {
			if s.Heap[x] == gone && slices.Contains(s.Terms, x) {
				want = append(want, x)
			}
		}
		if l := impl.Loose(s); !slices.Equal(l, want) {
			t.Errorf("Loose(%s) = %v", describeState(s), l)
		}
	}
	for i := 1; i < impl.Terms; i++ {
		s := mustState(t, "1>0")
		s.Terms[i] = 6
		if l := impl.Loose(s); !slices.Equal(l, []int{6}) {
			t.Errorf("Loose with the term %d = %v", i, l)
		}
	}
	for _, s := range wrongStates() {
		if l := impl.Loose(s); len(l) != 0 {
			t.Errorf("Loose(%s) = %v", describeState(s), l)
		}
	}
}

// checkGrown holds what has grown to the promise: one more is there, and who came by at comes by the new one.
func checkGrown(t *testing.T, s, g impl.State, at, by int) {
	t.Helper()
	want := cloneState(s)
	want.Heap[by] = s.Heap[at]
	want.Heap[at] = by
	if !sameState(g, want) || len(impl.Domain(g)) != len(impl.Domain(s))+1 {
		t.Fatalf("Grow(%s, %d, %d) = %s", describeState(s), at, by, describeState(g))
	}
	for from := range impl.Addrs + 1 {
		for to := range impl.Addrs + 1 {
			l, ok := impl.SegOf(s, from, to)
			if !ok || from == by {
				continue
			}
			if i := slices.Index(l, at); i >= 0 && to == by {
				l = l[:i+1] // its end is met right behind at
			} else if i >= 0 {
				l = slices.Insert(l, i+1, by)
			}
			if m, ok := impl.SegOf(g, from, to); !ok || !slices.Equal(l, m) {
				t.Fatalf("from %d to %d in Grow(%s, %d, %d): %v, %v", from, to, describeState(s), at, by, m, ok)
			}
		}
	}
}

func refusesGrow(t *testing.T, s impl.State, at, by int) {
	t.Helper()
	if g, ok := impl.Grow(s, at, by); ok || !isZeroState(g) {
		t.Errorf("Grow(%s, %d, %d) = %s, %v", describeState(s), at, by, describeState(g), ok)
	}
}

func TestGrow(t *testing.T) {
	grown := 0
	for _, s := range drawnStates(500) {
		for at := range impl.Addrs + 1 {
			for by := range impl.Addrs + 1 {
				if at == 0 || by == 0 || s.Heap[at] == gone || s.Heap[by] != gone {
					refusesGrow(t, s, at, by)
					continue
				}
				g, ok := impl.Grow(s, at, by)
				if !ok {
					t.Fatalf("Grow(%s, %d, %d)", describeState(s), at, by)
				}
				checkGrown(t, s, g, at, by)
				grown++
			}
			for _, x := range wrongPlacesOfHeap {
				refusesGrow(t, s, at, x)
				refusesGrow(t, s, x, at)
			}
		}
	}
	if grown < 500 {
		t.Fatalf("only %d grew", grown)
	}
	for _, w := range wrongStates() {
		for at := -1; at <= impl.Addrs+1; at++ {
			refusesGrow(t, w, at, 6)
			refusesGrow(t, w, 1, at)
		}
	}
}

func TestGrowKnownOnes(t *testing.T) {
	for _, c := range []struct {
		state  string
		at, by int
		want   string
	}{
		{"a=1 1>0", 1, 6, "a=1 1>6 6>0"},
		{"a=6 6>6", 6, 1, "a=6 6>1 1>6"},
		{"a=1 1>2 2>0", 1, 3, "a=1 1>3 3>2 2>0"},
		{"a=1 1>3 3>3", 3, 2, "a=1 1>3 3>2 2>3"},
		{"a=1 1>2", 1, 2, "a=1 1>2 2>2"}, // at had by, which was not there
	} {
		if g, ok := impl.Grow(mustState(t, c.state), c.at, c.by); !ok || !sameState(g, mustState(t, c.want)) {
			t.Errorf("Grow(%q, %d, %d) = %s, %v", c.state, c.at, c.by, describeState(g), ok)
		}
	}
	for _, c := range [][2]int{{1, 1}, {3, 3}, {3, 1}, {1, 2}, {0, 3}, {1, 0}, {1, 7}, {7, 3}, {-1, 3}, {1, -1}, {3, 4}} {
		refusesGrow(t, mustState(t, "a=1 1>2 2>0"), c[0], c[1])
	}
	refusesGrow(t, mustState(t, ""), 1, 2)
	refusesGrow(t, mustState(t, "1>0 2>0 3>0 4>0 5>0 6>0"), 1, 2)
}

func TestSoleKnownOnes(t *testing.T) {
	for _, c := range []struct {
		state string
		t     int
		want  string
	}{
		{"a=1 b=4 1>2 2>3 3>0 4>5 6>6", 1, "a=1 b=4 1>2 2>3 3>0"},
		{"a=1 b=4 1>2 2>3 3>0 4>5 6>6", 2, "a=1 b=4 4>5"}, // till one is not there
		{"a=1 b=4 1>2 2>3 3>0 4>5 6>6", 3, "a=1 b=4"},
		{"a=1 b=4 1>2 2>3 3>0 4>5 6>6", impl.Nil, "a=1 b=4"},
		{"a=1 1>2 2>3 3>2 4>1", 1, "a=1 1>2 2>3 3>2"}, // till one was gone from
		{"a=2 1>2 2>3 3>2 4>1", 1, "a=2 2>3 3>2"},
		{"a=6 6>6 1>6", 1, "a=6 6>6"},
		{"a=5 1>2 6>5", 1, "a=5"},
		{"", 1, ""},
		{"a=1 1>2 2>3 3>4 4>5 5>6 6>0", 1, "a=1 1>2 2>3 3>4 4>5 5>6 6>0"},
	} {
		if p, ok := impl.Sole(mustState(t, c.state), c.t); !ok || !sameState(p, mustState(t, c.want)) {
			t.Errorf("Sole(%q, %d) = %s, %v", c.state, c.t, describeState(p), ok)
		}
	}
}

// What is come by from a term is kept as it was, and nothing else.
func TestSole(t *testing.T) {
	for _, s := range drawnStates(1000) {
		for x := range impl.Terms {
			want := impl.State{Terms: slices.Clone(s.Terms), Heap: heapWith()}
			at := s.Terms[x]
			for range impl.Addrs {
				if s.Heap[at] != gone {
					want.Heap[at] = s.Heap[at]
					at = s.Heap[at]
				}
			}
			p, ok := impl.Sole(s, x)
			if !ok || !sameState(p, want) {
				t.Fatalf("Sole(%s, %d) = %s, %v", describeState(s), x, describeState(p), ok)
			}
			for to := range impl.Addrs + 1 {
				if impl.Reaches(p, s.Terms[x], to) != impl.Reaches(s, s.Terms[x], to) {
					t.Fatalf("Sole(%s, %d) = %s, to %d", describeState(s), x, describeState(p), to)
				}
			}
		}
		for _, x := range wrongTerms {
			if p, ok := impl.Sole(s, x); ok || !isZeroState(p) {
				t.Fatalf("Sole(%s, %d) = %s, %v", describeState(s), x, describeState(p), ok)
			}
		}
	}
	for _, w := range wrongStates() {
		for x := -1; x <= impl.Terms; x++ {
			if p, ok := impl.Sole(w, x); ok || !isZeroState(p) {
				t.Fatalf("Sole(%s, %d) = %s, %v", describeState(w), x, describeState(p), ok)
			}
		}
	}
}
