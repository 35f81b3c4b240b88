package impl

import (
	"bytes"
	"cmp"
	"iter"
	"slices"
	"strconv"
)

const Nil = 0
const Vars = 5
const Terms = 16
const MaxPure = 12
const MaxSpace = 6

type Pair struct {
	A int
	B int
}

type Asn struct {
	Eqs   []Pair
	Nes   []Pair
	Cells []Pair
	Segs  []Pair
}

const maxAsnText = 400
const nilWord = "nil"
const empWord = "emp"
const nameMark = "_"
const blank = ' '

// The kinds of pairs are numbered as they stand in Asn: Eqs, Nes, Cells, Segs.
const kinds = 4
const kindCells = 2
const kindSegs = 3

var marks = [kinds]string{"=", "!", ">", ".."}

func TermOk(t int) bool { return t >= Nil && t < Terms }

func TermText(t int) []byte {
	switch {
	case !TermOk(t):
		return nil
	case t == Nil:
		return []byte(nilWord)
	case t <= Vars:
		return []byte{byte('a' + t - 1)}
	}
	return strconv.AppendInt([]byte(nameMark), int64(t-Vars), 10)
}

func TermRead(b []byte) (int, bool) {
	for t := range Terms {
		if bytes.Equal(TermText(t), b) {
			return t, true
		}
	}
	return 0, false
}

func listsOf(a Asn) [kinds][]Pair {
	return [kinds][]Pair{a.Eqs, a.Nes, a.Cells, a.Segs}
}

func asnOf(l [kinds][]Pair) Asn {
	return Asn{Eqs: l[0], Nes: l[1], Cells: l[2], Segs: l[3]}
}

// behind puts y behind x in new memory: an append to x itself could write into its spare room.
func behind(x []Pair, y []Pair) []Pair {
	return append(append([]Pair(nil), x...), y...)
}

func copyOf(l []Pair) []Pair { return behind(nil, l) }

func termsOk(l []Pair) bool {
	for _, p := range l {
		if !TermOk(p.A) || !TermOk(p.B) {
			return false
		}
	}
	return true
}

func AsnOk(a Asn) bool {
	if len(a.Eqs) > MaxPure || len(a.Nes) > MaxPure || len(a.Cells)+len(a.Segs) > MaxSpace {
		return false
	}
	for _, l := range listsOf(a) {
		if !termsOk(l) {
			return false
		}
	}
	return true
}

func wordOf(kind int, p Pair) []byte {
	return slices.Concat(TermText(p.A), []byte(marks[kind]), TermText(p.B))
}

func AsnText(a Asn) []byte {
	if !AsnOk(a) {
		return nil
	}
	var all [][]byte
	for kind, l := range listsOf(a) {
		for _, p := range l {
			all = append(all, wordOf(kind, p))
		}
	}
	if len(all) == 0 {
		return []byte(empWord)
	}
	return bytes.Join(all, []byte{blank})
}

// wordsOf hands out what stands between blanks, empty words too: a reader has to refuse a blank too many.
func wordsOf(b []byte) iter.Seq[[]byte] {
	return func(yield func([]byte) bool) {
		from := 0
		for i, c := range b {
			if c != blank {
				continue
			}
			if !yield(b[from:i]) {
				return
			}
			from = i + 1
		}
		yield(b[from:])
	}
}

func readWord(w []byte) (int, Pair, bool) {
	var p Pair
	var ok bool
	for kind, mark := range marks {
		left, right, found := bytes.Cut(w, []byte(mark))
		if !found {
			continue
		}
		if p.A, ok = TermRead(left); !ok {
			goto wrong
		}
		if p.B, ok = TermRead(right); !ok {
			goto wrong
		}
		return kind, p, true
	}
wrong:
	return 0, Pair{}, false
}

// readWords takes the words in any order and number.
func readWords(b []byte) (Asn, bool) {
	var l [kinds][]Pair
	for w := range wordsOf(b) {
		kind, p, ok := readWord(w)
		if !ok {
			return Asn{}, false
		}
		l[kind] = append(l[kind], p)
	}
	return asnOf(l), true
}

func AsnRead(b []byte) (Asn, bool) {
	var a Asn
	var ok bool
	if len(b) > maxAsnText {
		goto wrong
	}
	if string(b) == empWord {
		return Asn{}, true
	}
	if a, ok = readWords(b); !ok {
		goto wrong
	}
	// Written again it is another text if there are too many, or if they stand in another order.
	if !bytes.Equal(AsnText(a), b) {
		goto wrong
	}
	return a, true
wrong:
	return Asn{}, false
}

func replaced(x int, t int, by int) int {
	if x == t {
		return by
	}
	return x
}

// substituted takes terms that are right, be there more pairs than an assertion can have.
func substituted(a Asn, t int, by int) Asn {
	var out [kinds][]Pair
	for kind, l := range listsOf(a) {
		for _, p := range l {
			out[kind] = append(out[kind], Pair{A: replaced(p.A, t, by), B: replaced(p.B, t, by)})
		}
	}
	return asnOf(out)
}

func Subst(a Asn, t int, by int) (Asn, bool) {
	if !AsnOk(a) || !TermOk(t) || !TermOk(by) || t == Nil {
		return Asn{}, false
	}
	return substituted(a, t, by), true
}

func Star(a Asn, b Asn) (Asn, bool) {
	if !AsnOk(a) || !AsnOk(b) {
		return Asn{}, false
	}
	out := listsOf(a)
	for kind, l := range listsOf(b) {
		out[kind] = behind(out[kind], l)
	}
	both := asnOf(out)
	if !AsnOk(both) {
		return Asn{}, false
	}
	return both, true
}

// termsIn tells for each term whether it is there; all of a have to be TermOk, else there is no place for some.
func termsIn(a Asn) [Terms]bool {
	var in [Terms]bool
	for _, l := range listsOf(a) {
		for _, p := range l {
			in[p.A] = true
			in[p.B] = true
		}
	}
	return in
}

func TermsOf(a Asn) []int {
	if !AsnOk(a) {
		return nil
	}
	var out []int
	for t, is := range termsIn(a) {
		if is {
			out = append(out, t)
		}
	}
	return out
}

func Fresh(a Asn) int {
	if !AsnOk(a) {
		return -1
	}
	in := termsIn(a)
	for t := Vars + 1; t < Terms; t++ {
		if !in[t] {
			return t
		}
	}
	return -1
}

func Plain(a Asn) bool {
	if !AsnOk(a) {
		return false
	}
	for t, is := range termsIn(a) {
		if is && t > Vars {
			return false
		}
	}
	return true
}

func Has(a Asn, t int) bool {
	return AsnOk(a) && TermOk(t) && termsIn(a)[t]
}

func SizeOf(a Asn) int {
	if !AsnOk(a) {
		return -1
	}
	return len(a.Eqs) + len(a.Nes) + len(a.Cells) + len(a.Segs)
}

func kindOk(kind int) bool { return kind >= 0 && kind < kinds }

func PairsOf(a Asn, kind int) []Pair {
	if !AsnOk(a) || !kindOk(kind) {
		return nil
	}
	return copyOf(listsOf(a)[kind])
}

func Without(a Asn, kind int, i int) (Asn, bool) {
	if !AsnOk(a) || !kindOk(kind) {
		return Asn{}, false
	}
	l := listsOf(a)
	if i < 0 || i >= len(l[kind]) {
		return Asn{}, false
	}
	var out [kinds][]Pair
	for k := range kinds {
		if k == kind {
			out[k] = behind(l[k][:i], l[k][i+1:])
		} else {
			out[k] = copyOf(l[k])
		}
	}
	return asnOf(out), true
}

func byTerms(x Pair, y Pair) int {
	return cmp.Or(cmp.Compare(x.A, y.A), cmp.Compare(x.B, y.B))
}

func Sorted(a Asn) (Asn, bool) {
	if !AsnOk(a) {
		return Asn{}, false
	}
	var out [kinds][]Pair
	for kind, l := range listsOf(a) {
		out[kind] = copyOf(l)
		slices.SortStableFunc(out[kind], byTerms)
	}
	return asnOf(out), true
}
