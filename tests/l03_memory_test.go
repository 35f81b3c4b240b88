package tests

import (
	"math"
	"slices"
	"testing"

	"loop.example/g00621/impl"
)

// checkOwnInts writes over an answer, and asks again: neither the argument nor the next answer may change.
func checkOwnInts(t *testing.T, name string, r *room, ask func() []int) {
	t.Helper()
	l := ask()
	want := slices.Clone(l)
	all := l[:cap(l)]
	for i := range all {
		all[i] = 1000 + i
	}
	if r.touched() || !slices.Equal(ask(), want) {
		t.Fatalf("%s: what is answered about %s is no new memory", name, describe(r.asn))
	}
}

func TestPureIsNewMemory(t *testing.T) {
	same := pairs{{A: 3, B: 1}, {A: 2, B: 2}}
	for _, r := range append(rooms(), sharedRoom(same), jointRoom(mustRead(t, "b=c c=a c!nil c>b")), jointRoom(mustRead(t, "b!a a..b"))) {
		n, _ := impl.Normal(r.asn)
		checkNew(t, "Normal", partsOf(n), r)
		checkOwnInts(t, "Classes", r, func() []int { return impl.Classes(r.asn) })
		checkOwnInts(t, "Heads", r, func() []int { return impl.Heads(r.asn) })
		for x := -1; x <= impl.Terms; x++ {
			checkOwnInts(t, "Members", r, func() []int { return impl.Members(r.asn, x) })
			impl.HeadAt(r.asn, x)
			for y := -1; y <= impl.Terms; y++ {
				impl.Alike(r.asn, x, y)
				impl.Unlike(r.asn, x, y)
			}
		}
		impl.Contra(r.asn)
		impl.Opened(r.asn)
		impl.ClassCount(r.asn)
		checkNew(t, "the others", nil, r)
	}
}

// What an answer was is still so when an argument is changed afterwards.
func TestPureDoesNotFollowArguments(t *testing.T) {
	for _, r := range rooms() {
		if !impl.AsnOk(r.asn) {
			continue
		}
		k := knownBy(r.asn)
		want, wantHeads, wantMembers := k.normal(), k.heads(), k.members(3)
		n, _ := impl.Normal(r.asn)
		heads, members := impl.Heads(r.asn), impl.Members(r.asn, 3)
		for _, l := range r.memory {
			for i := range l {
				l[i] = impl.Pair{A: 9, B: 9}
			}
		}
		if !sameAsn(n, want) || !slices.Equal(heads, wantHeads) || !slices.Equal(members, wantMembers) {
			t.Fatalf("an answer changed with its argument: %s", describe(n))
		}
	}
}

// What is behind a list's length is not known.
func TestPureStopsAtTheLength(t *testing.T) {
	m := pairs{{A: 1, B: 2}, {A: 2, B: 3}, {A: 99, B: -1}}
	a := impl.Asn{Eqs: m[:1], Nes: m[:0], Cells: m[1:1], Segs: m[:0]}
	if !slices.Equal(impl.Classes(a), classesWith(0, 1, 1)) || impl.Alike(a, 2, 3) || !impl.Opened(a) || len(impl.Heads(a)) != 0 || impl.Contra(a) || impl.Unlike(a, 1, 2) {
		t.Error("something reads behind the length")
	}
	a = impl.Asn{Nes: m[:0], Segs: m[:1]}
	if impl.Opened(a) || !slices.Equal(impl.Heads(a), []int{1}) {
		t.Error("something reads behind the length")
	}
}

func TestNoCallOfPurePanics(t *testing.T) {
	numbers := append([]int{0, 1, 2, 6, 15, math.MaxInt - 1, math.MinInt + 1}, wrongTerms...)
	for _, a := range append(wrongAsns(), impl.Asn{}, fullAsn(0), fullAsn(3), fullAsn(6), mustRead(t, "a=_10 nil=a _10!nil nil>nil nil.._10")) {
		impl.Classes(a)
		impl.Normal(a)
		impl.Heads(a)
		impl.Contra(a)
		impl.Opened(a)
		impl.ClassCount(a)
		for _, x := range numbers {
			impl.Members(a, x)
			impl.HeadAt(a, x)
			for _, y := range numbers {
				impl.Alike(a, x, y)
				impl.Unlike(a, x, y)
			}
		}
	}
}

// No function keeps anything: an answer is the same again, whatever was asked in between.
func TestNothingIsKeptOfPure(t *testing.T) {
	all := drawnAsns(150)
	for i, a := range all {
		first := impl.Classes(a)
		n, _ := impl.Normal(a)
		opened, contra, unlike := impl.Opened(a), impl.Contra(a), impl.Unlike(a, 1, 2)
		other := all[(i+37)%len(all)]
		impl.Classes(other)
		impl.Normal(other)
		impl.Contra(other)
		impl.Unlike(other, 2, 1)
		again, _ := impl.Normal(a)
		if !slices.Equal(impl.Classes(a), first) || !sameAsn(n, again) || impl.Opened(a) != opened || impl.Contra(a) != contra || impl.Unlike(a, 1, 2) != unlike {
			t.Fatalf("an answer about %s is another one", describe(a))
		}
	}
}
