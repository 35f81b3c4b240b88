package tests

import (
	"fmt"
	"math"
	"slices"
	"strconv"
	"strings"
	"testing"

	"loop.example/g00621/impl"
)

const gone = -1

// heapWith has what is told from address 1 on; behind that nothing is there.
func heapWith(there ...int) []int {
	l := slices.Repeat([]int{gone}, impl.Addrs+1)
	copy(l[1:], there)
	return l
}

// termsWith has what is told from the first variable on; all others are 0.
func termsWith(addrs ...int) []int {
	l := make([]int, impl.Terms)
	copy(l[1:], addrs)
	return l
}

// mustState reads what StateText writes, so that tests can name a state by its text; variables that are not told are 0.
func mustState(t *testing.T, text string) impl.State {
	t.Helper()
	s := impl.State{Terms: termsWith(), Heap: heapWith()}
	for _, w := range strings.Fields(text) {
		y, err := strconv.Atoi(w[2:])
		switch {
		case err != nil:
			t.Fatalf("no state: %q", text)
		case w[1] == '=':
			s.Terms[slices.IndexFunc([]int{0, 1, 2, 3, 4, 5}, func(x int) bool { return termWord(x) == w[:1] })] = y
		default:
			s.Heap[w[0]-'0'] = y
		}
	}
	return s
}

func sameState(x, y impl.State) bool {
	return slices.Equal(x.Terms, y.Terms) && slices.Equal(x.Heap, y.Heap)
}

func isZeroState(s impl.State) bool { return sameState(s, impl.State{}) }

func cloneState(s impl.State) impl.State {
	return impl.State{Terms: slices.Clone(s.Terms), Heap: slices.Clone(s.Heap)}
}

func describeState(s impl.State) string { return fmt.Sprintf("%+v", s) }

func domainBy(heap []int) []int {
	var l []int
	for x, y := range heap {
		if y != gone {
			l = append(l, x)
		}
	}
	return l
}

// wayBy counts its steps: whoever goes more than there are addresses goes round.
func wayBy(heap []int, from, to int) ([]int, bool) {
	var l []int
	for x := from; x != to; x = heap[x] {
		if heap[x] == gone || len(l) > impl.Addrs {
			return nil, false
		}
		l = append(l, x)
	}
	return l, true
}

// holdsBy counts for each address the pieces that it is in.
func holdsBy(s impl.State, a impl.Asn) bool {
	at := func(t int) int { return s.Terms[t] }
	var in [impl.Addrs + 1]int
	for _, p := range a.Eqs {
		if at(p.A) != at(p.B) {
			return false
		}
	}
	for _, p := range a.Nes {
		if at(p.A) == at(p.B) {
			return false
		}
	}
	for _, p := range a.Cells {
		if s.Heap[at(p.A)] == gone || s.Heap[at(p.A)] != at(p.B) {
			return false
		}
		in[at(p.A)]++
	}
	for _, p := range a.Segs {
		l, ok := wayBy(s.Heap, at(p.A), at(p.B))
		if !ok {
			return false
		}
		for _, x := range l {
			in[x]++
		}
	}
	for x, y := range s.Heap {
		if in[x] > 1 || (in[x] == 1) != (y != gone) {
			return false
		}
	}
	return true
}

func (d *draw) heap() []int {
	l := heapWith()
	often := 1 + d.below(8)
	for x := 1; x <= impl.Addrs; x++ {
		switch {
		case d.below(8) >= often:
		case d.below(2) == 0:
			l[x] = (x + 1) % (impl.Addrs + 1)
		default:
			l[x] = d.below(impl.Addrs + 1)
		}
	}
	return l
}

func (d *draw) state() impl.State {
	s := impl.State{Terms: termsWith(), Heap: d.heap()}
	most := 1 + d.below(impl.Addrs+1)
	for t := 1; t < impl.Terms; t++ {
		s.Terms[t] = d.below(most)
	}
	if d.below(3) > 0 {
		for x := 1; x <= impl.Addrs; x++ {
			s.Terms[1+d.below(impl.Terms-1)] = x
		}
	}
	return s
}

func drawnStates(n int) []impl.State {
	d := draw(2)
	l := make([]impl.State, n)
	for i := range l {
		l[i] = d.state()
	}
	return l
}

// termAt is a drawn term that is x; -1, if there is none.
func (d *draw) termAt(s impl.State, x int) int {
	from := d.below(impl.Terms)
	for i := range impl.Terms {
		if t := (from + i) % impl.Terms; s.Terms[t] == x {
			return t
		}
	}
	return -1
}

// asnAbout has pieces and pure words that s has, as far as terms name them: it holds often, but not always.
func (d *draw) asnAbout(s impl.State) impl.Asn {
	var a impl.Asn
	left := domainBy(s.Heap)
	for range 30 {
		if len(left) == 0 || len(a.Cells)+len(a.Segs) == impl.MaxSpace {
			break
		}
		x := left[d.below(len(left))]
		to := d.below(impl.Addrs + 1)
		cell := d.below(2) == 0
		if cell {
			to = s.Heap[x]
		}
		l, ok := wayBy(s.Heap, x, to)
		if cell {
			l, ok = []int{x}, true
		}
		p := impl.Pair{A: d.termAt(s, x), B: d.termAt(s, to)}
		if !ok || p.A < 0 || p.B < 0 || slices.ContainsFunc(l, func(y int) bool { return !slices.Contains(left, y) }) {
			continue
		}
		left = slices.DeleteFunc(left, func(y int) bool { return slices.Contains(l, y) })
		if cell {
			a.Cells = append(a.Cells, p)
		} else {
			a.Segs = append(a.Segs, p)
		}
	}
	for range d.below(5) {
		p := impl.Pair{A: d.below(impl.Terms), B: d.below(impl.Terms)}
		if s.Terms[p.A] == s.Terms[p.B] {
			a.Eqs = append(a.Eqs, p)
		} else {
			a.Nes = append(a.Nes, p)
		}
	}
	return a
}

// bent is a with one pair in another way, in another kind, twice, or not there.
func (d *draw) bent(a impl.Asn) impl.Asn {
	l := listsOf(a)
	for k := range l {
		l[k] = slices.Clone(l[k])
	}
	k := d.below(kinds)
	if len(l[k]) == 0 {
		l[k] = append(l[k], impl.Pair{A: d.below(impl.Terms), B: d.below(impl.Terms)})
		return asnOf(l)
	}
	i := d.below(len(l[k]))
	switch d.below(4) {
	case 0:
		l[k][i].A = d.below(impl.Terms)
	case 1:
		l[k][i].B = d.below(impl.Terms)
	case 2:
		l[k] = append(l[k], l[k][i])
	default:
		l[k^1] = append(l[k^1], l[k][i])
		l[k] = slices.Delete(l[k], i, i+1)
	}
	return asnOf(l)
}

var wrongPlacesOfHeap = []int{-1, impl.Addrs + 1, -2, impl.Addrs + 2, 255, 256, math.MinInt, math.MaxInt, 1 << 32, -(1 << 32)}

// wrongLists are each just not what ok wants: too short, too long, or one wrong number; what is behind the short ones would make them right.
func wrongLists(ok []int, wrongAt func(i int) []int) [][]int {
	out := [][]int{nil, {}, ok[:1], ok[:len(ok)-1], append(slices.Clone(ok), 0), append(slices.Clone(ok), -1), slices.Repeat([]int{0}, 5000), slices.Repeat([]int{-1}, 5000)}
	for i := range ok {
		for _, x := range wrongAt(i) {
			l := slices.Clone(ok)
			l[i] = x
			out = append(out, l)
		}
	}
	return out
}

func wrongHeaps() [][]int {
	return wrongLists(heapWith(2, 3, 0, gone, 6, 5), func(i int) []int {
		if i == 0 {
			return []int{-2, 0, 1, 2, impl.Addrs, impl.Addrs + 1, math.MinInt, math.MaxInt}
		}
		return wrongPlacesOfHeap[1:]
	})
}

func wrongTermLists() [][]int {
	return wrongLists(termsWith(1, 3, 0, 4, 6, 2), func(i int) []int {
		if i == 0 {
			return []int{-1, 1, 2, impl.Addrs, impl.Addrs + 1, math.MinInt, math.MaxInt}
		}
		return wrongPlacesOfHeap
	})
}

func wrongStates() []impl.State {
	out := []impl.State{{}, {Terms: heapWith(1), Heap: termsWith(1)}}
	for _, l := range wrongTermLists() {
		out = append(out, impl.State{Terms: l, Heap: heapWith(2, 3, 0)})
	}
	for _, l := range wrongHeaps() {
		out = append(out, impl.State{Terms: termsWith(1, 3), Heap: l})
	}
	return out
}

// smallStates are all with addresses 1 .. 3, of which a and b are any.
func smallStates(do func(impl.State)) {
	for x := range 5 * 5 * 5 {
		for y := range 4 * 4 {
			do(impl.State{Terms: termsWith(y%4, y/4), Heap: heapWith(x%5-1, x/5%5-1, x/25-1)})
		}
	}
}
