package block

import (
	"bytes"
	"compress/flate"
	"io"
	"math"
	"math/rand"
	"slices"
	"strings"
	"testing"
	"time"

	"stevedore/api"
	"stevedore/bits"
	"stevedore/canon"
	"stevedore/match"
	"stevedore/symbol"
)

// lits is a token of each byte.
func lits(s string) []api.Token {
	var out []api.Token
	for i := range len(s) {
		out = append(out, api.Token{Lit: s[i]})
	}
	return out
}

// far is a match.
func far(n, dist int) []api.Token {
	return []api.Token{{Len: n, Dist: dist}}
}

// joined is lists one behind the other.
func joined(lists ...[]api.Token) []api.Token {
	return slices.Concat(lists...)
}

// odd is numbers from all over int.
func odd() []int {
	out := []int{math.MinInt, math.MinInt + 1, math.MinInt + 7, math.MaxInt - 7, math.MaxInt - 1, math.MaxInt}
	for n := 0; n < 63; n += 3 {
		for _, by := range []int{0, 1, 2, 3, 5, 8} {
			out = append(out, 1<<n+by, 1<<n-by, -1<<n+by, -1<<n-by)
		}
	}
	return out
}

// allLengths is a match of each length.
func allLengths(dist int) []api.Token {
	var out []api.Token
	for n := 3; n <= 258; n++ {
		out = append(out, api.Token{Len: n, Dist: dist})
	}
	return out
}

// allDists is matches of each distance's symbol: its least distance, and its greatest one.
func allDists(n int) []api.Token {
	var out []api.Token
	for _, x := range distRows() {
		out = append(out, api.Token{Len: n, Dist: x.least}, api.Token{Len: n, Dist: x.least + 1<<x.extra - 1})
	}
	return out
}

// ladder is bytes, each of which stands as often as the two ahead of it: with the end, which stands once, their code has as many bits as there are bytes.
func ladder(n int) []api.Token {
	var out []api.Token
	a, b := 1, 2
	for i := range n {
		out = append(out, slices.Repeat([]api.Token{{Lit: byte(3 * i)}}, a)...)
		a, b = b, a+b
	}
	return out
}

// stepped is bytes whose code has just these lengths: how many of each, from 1 on; one of the last length, the end's, isn't among them. Two other bytes lie between each two of them, so that no lengths are the same in a row.
func stepped(counts []int) []api.Token {
	var out []api.Token
	at := 0
	for i, n := range counts {
		for range n {
			one := []api.Token{{Lit: byte(at)}}
			out = append(out, slices.Repeat(one, 1<<(len(counts)-1-i))...)
			at += 3
		}
	}
	return out
}

// seven is how many bytes have each length, so that a header's code comes up to 7 bits; of eight and nine it would come up to so many, if it might.
func seven() []int { return []int{0, 1, 1, 1, 6, 6, 22, 15, 25} }
func eight() []int { return []int{0, 1, 1, 3, 7, 0, 10, 18, 35} }
func nine() []int  { return []int{0, 1, 1, 7, 1, 1, 11, 0, 17, 4, 35} }

// randomTokens is tokens of all kinds, some of which stand much oftener than others.
func randomTokens(random *rand.Rand, n int) []api.Token {
	kinds := 1 + random.Intn(256)
	skew := 1 + random.Intn(40)
	matches := random.Intn(5)
	var out []api.Token
	for range n {
		t := api.Token{Lit: byte(int(random.ExpFloat64()*float64(skew)) * 7 % kinds)}
		if random.Intn(4) < matches {
			t = api.Token{Len: 3 + int(random.ExpFloat64()*float64(skew))%256, Dist: 1 + random.Intn(1+random.Intn(1<<random.Intn(16)))}
		}
		out = append(out, t)
	}
	return out
}

// lists is tokens of which all is asked: those at the edges, then some of chance.
func lists() [][]api.Token {
	out := [][]api.Token{
		nil,
		{},
		lits("a"),
		lits("aa"),
		lits("\x00"),
		lits("\xff"),
		lits("abracadabra"),
		lits("\x00\x8f\x90\xff"),
		joined(lits("abc"), far(6, 3), lits("d")),
		joined(lits("aa"), far(3, 1)),
		joined(lits("a"), far(258, 1)),
		far(258, 32768),
		far(3, 1),
		joined(far(257, 24577), far(258, 24577)),
		joined(far(3, 24577), far(3, 32768)),
		{{Dist: 7, Lit: 'q'}, {Len: -1, Dist: -7, Lit: 'r'}, {Len: math.MinInt, Lit: 's'}, {Len: 5, Dist: 5, Lit: 't'}},
		allLengths(1),
		allLengths(32768),
		allDists(3),
		joined(allLengths(5), allDists(258)),
		ladder(10),
		ladder(15),
		ladder(16),
		ladder(19),
		stepped(seven()),
		stepped(eight()),
		stepped(nine()),
		crossing(),
		eights(),
	}
	for _, n := range []int{3, 10, 11, 257, 258} {
		for _, dist := range []int{1, 4, 5, 24577, 32768} {
			out = append(out, far(n, dist), joined(lits("ab"), far(n, dist), lits("b")))
		}
	}
	random := rand.New(rand.NewSource(91))
	for i := range 300 {
		out = append(out, randomTokens(random, random.Intn(10+2*i)))
	}
	return out
}

// crossing is tokens whose first code ends in eight lengths of 4, and whose second one is sixteen of 4.
func crossing() []api.Token {
	out := lits("gaabbccddeeffhh")
	for i, x := range distRows()[:16] {
		out = append(out, api.Token{Len: 3 + i/2, Dist: x.least})
	}
	return out
}

// eights is tokens whose code has 256 symbols, all of 8 bits.
func eights() []api.Token {
	var out []api.Token
	for b := range 255 {
		out = append(out, api.Token{Lit: byte(b)})
	}
	return out
}

// filled is a writer of so many bits, and these.
func filled(n int) (*bits.Writer, string) {
	w, s := &bits.Writer{}, ""
	for i := range n {
		w.Bit(i % 3)
		s += digit(i % 3)
	}
	return w, s
}

// holdBits holds a writer's bits against those asked for.
func holdBits(t *testing.T, w *bits.Writer, asked string) {
	t.Helper()
	if len(w.Out) != (w.N+7)/8 {
		t.Fatalf("%d bits in %d bytes", w.N, len(w.Out))
	}
	got := written(w)
	if got == asked {
		return
	}
	at := 0
	for at < len(got) && at < len(asked) && got[at] == asked[at] {
		at++
	}
	t.Fatalf("bits from the %d-th on: %s (of %d), asked for %s (of %d)", at, got[at:min(at+60, len(got))], len(got), asked[at:min(at+60, len(asked))], len(asked))
}

// holdWrite holds a block against the chapter's words, and against its Size, behind some other bits.
func holdWrite(t *testing.T, l []api.Token, kind int, last bool, at int) {
	t.Helper()
	w, ahead := filled(at)
	Write(w, l, kind, last)
	holdBits(t, w, ahead+saidWrite(l, kind, last))
	// Size of kind 0 is a stored block's, but Write's is a fixed one.
	if kind == 0 {
		kind = 1
	}
	if n := Size(l, 0, kind, at); n != w.N-at {
		t.Fatalf("size of kind %d behind %d bits: %d, written: %d", kind, at, n, w.N-at)
	}
}

// holdStore does so with a stored block.
func holdStore(t *testing.T, s string, last bool, at int) {
	t.Helper()
	w, ahead := filled(at)
	Store(w, s, last)
	holdBits(t, w, ahead+saidStore(s, last, at))
	if n := Size(nil, len(s), 0, at); n != w.N-at {
		t.Fatalf("size of %d bytes behind %d bits: %d, written: %d", len(s), at, n, w.N-at)
	}
}

// holdLengths holds two lists of numbers against those asked for.
func holdLengths(t *testing.T, what string, a, b, askedA, askedB []int) {
	t.Helper()
	if !slices.Equal(a, askedA) || !slices.Equal(b, askedB) {
		t.Fatalf("%s: %v, %v; asked for %v, %v", what, a, b, askedA, askedB)
	}
}

// with is n noughts, and what stands among them, by its place.
func with(n int, among map[int]int) []int {
	out := make([]int, n)
	for i, v := range among {
		out[i] = v
	}
	return out
}

// opened is what Go's own reader makes of blocks.
func opened(t *testing.T, w *bits.Writer) string {
	t.Helper()
	s, err := io.ReadAll(flate.NewReader(bytes.NewReader(w.Out)))
	if err != nil {
		t.Fatal(err)
	}
	return string(s)
}

// The tables that the tests lean on are as RFC 1951 prints them, at the edges.
func TestRows(t *testing.T) {
	l, d := lenRows(), distRows()
	if len(l) != 29 || len(d) != 30 {
		t.Fatal(len(l), len(d))
	}
	if l[0] != (row{3, 0}) || l[7] != (row{10, 0}) || l[8] != (row{11, 1}) || l[27] != (row{227, 5}) || l[28] != (row{258, 0}) {
		t.Error(l)
	}
	if d[0] != (row{1, 0}) || d[3] != (row{4, 0}) || d[4] != (row{5, 1}) || d[29] != (row{24577, 13}) {
		t.Error(d)
	}
}

// P9.1: Plain.

func TestPlain(t *testing.T) {
	lens, dists := saidPlain()
	a, b := Plain()
	holdLengths(t, "plain", a, b, lens, dists)
	for i, n := range map[int]int{0: 8, 143: 8, 144: 9, 255: 9, 256: 7, 279: 7, 280: 8, 287: 8} {
		if a[i] != n {
			t.Errorf("at %d: %d", i, a[i])
		}
	}
	clear(a)
	clear(b)
	a, b = Plain()
	holdLengths(t, "plain, after an answer was changed", a, b, lens, dists)
}

// P9.1: Weights.

func TestWeightsExamples(t *testing.T) {
	for _, x := range []struct {
		l           []api.Token
		lens, dists map[int]int
	}{
		{nil, map[int]int{256: 1}, nil},
		{lits("a"), map[int]int{'a': 1, 256: 1}, nil},
		{lits("\x00aa\xff"), map[int]int{0: 1, 'a': 2, 255: 1, 256: 1}, nil},
		{far(3, 1), map[int]int{257: 1, 256: 1}, map[int]int{0: 1}},
		{joined(far(10, 4), far(11, 5)), map[int]int{264: 1, 265: 1, 256: 1}, map[int]int{3: 1, 4: 1}},
		{joined(far(257, 24576), far(258, 24577), far(258, 32768)), map[int]int{284: 1, 285: 2, 256: 1}, map[int]int{28: 1, 29: 2}},
		{joined(lits("x"), far(12, 6), lits("x"), far(11, 5)), map[int]int{'x': 2, 265: 2, 256: 1}, map[int]int{4: 2}},
	} {
		a, b := Weights(x.l)
		holdLengths(t, "weights", a, b, with(286, x.lens), with(30, x.dists))
	}
}

// What a match has as its Lit, or a byte as its Dist, is of no account; a Len below 0 is a byte's, too.
func TestWeightsOfOddTokens(t *testing.T) {
	for _, n := range odd() {
		if n > 0 {
			continue
		}
		for _, dist := range odd() {
			a, b := Weights([]api.Token{{Len: n, Dist: dist, Lit: 'q'}})
			holdLengths(t, "a byte", a, b, with(286, map[int]int{'q': 1, 256: 1}), make([]int, 30))
		}
	}
	a, b := Weights([]api.Token{{Len: 3, Dist: 1, Lit: 'q'}})
	holdLengths(t, "a match", a, b, with(286, map[int]int{257: 1, 256: 1}), with(30, map[int]int{0: 1}))
}

func TestWeightsOfEach(t *testing.T) {
	for b := range 256 {
		lens, dists := Weights([]api.Token{{Lit: byte(b)}})
		holdLengths(t, "a byte", lens, dists, with(286, map[int]int{b: 1, 256: 1}), make([]int, 30))
	}
	for n := 3; n <= 258; n++ {
		lens, dists := Weights(far(n, 1))
		holdLengths(t, "a length", lens, dists, with(286, map[int]int{257 + found(lenRows(), n): 1, 256: 1}), with(30, map[int]int{0: 1}))
	}
	asked := make([]int, 30)
	var all []api.Token
	for d := 1; d <= 32768; d++ {
		all = append(all, api.Token{Len: 3, Dist: d})
		asked[found(distRows(), d)]++
	}
	lens, dists := Weights(all)
	holdLengths(t, "all distances", lens, dists, with(286, map[int]int{257: 32768, 256: 1}), asked)
}

func TestWeightsAreTheWords(t *testing.T) {
	for _, l := range lists() {
		a, b := Weights(l)
		lens, dists := saidWeights(l)
		holdLengths(t, "weights", a, b, lens, dists)
	}
}

// P9.1: Own.

func TestOwnExamples(t *testing.T) {
	for _, x := range []struct {
		l           []api.Token
		lens, dists []int
	}{
		// Nothing but the end: 257 lengths and 1 are left.
		{nil, with(257, map[int]int{256: 1}), []int{0}},
		// Bytes alone.
		{lits("a"), with(257, map[int]int{'a': 1, 256: 1}), []int{0}},
		{lits("abb"), with(257, map[int]int{'a': 2, 'b': 1, 256: 2}), []int{0}},
		// One distance alone, near and far.
		{joined(lits("aa"), far(3, 1)), with(258, map[int]int{'a': 1, 256: 2, 257: 2}), []int{1}},
		{far(10, 4), with(265, map[int]int{256: 1, 264: 1}), []int{0, 0, 0, 1}},
		{far(11, 5), with(266, map[int]int{256: 1, 265: 1}), []int{0, 0, 0, 0, 1}},
		{far(257, 24577), with(285, map[int]int{256: 1, 284: 1}), with(30, map[int]int{29: 1})},
		{far(258, 32768), with(286, map[int]int{256: 1, 285: 1}), with(30, map[int]int{29: 1})},
		// Both ends of both.
		{joined(lits("\x00"), far(258, 32768), far(258, 1)), with(286, map[int]int{0: 2, 256: 2, 285: 1}), with(30, map[int]int{0: 1, 29: 1})},
	} {
		a, b := Own(x.l)
		holdLengths(t, "own", a, b, x.lens, x.dists)
	}
}

func TestOwnIsTheWords(t *testing.T) {
	for _, l := range lists() {
		a, b := Own(l)
		lens, dists := saidOwn(l)
		holdLengths(t, "own", a, b, lens, dists)
	}
}

// 16 symbols whose code has 15 bits, and more of them, that would have more.
func TestOwnOfAtMostFifteenBits(t *testing.T) {
	for n := 10; n <= 19; n++ {
		lens, dists := Own(ladder(n))
		// Where it would be more, halves are taken, and these differ less: it isn't just 15.
		if most := slices.Max(lens); most != n && n <= 15 || most > 15 {
			t.Errorf("%d bytes, and the end: %d bits", n, most)
		}
		if len(lens) != 257 || !slices.Equal(dists, []int{0}) {
			t.Error(len(lens), dists)
		}
	}
	// The same of distances.
	for n := 14; n <= 20; n++ {
		var l []api.Token
		for i, x := range ladder(n) {
			l = append(l, api.Token{Len: 3 + i%256, Dist: distRows()[x.Lit/3].least})
		}
		_, dists := Own(l)
		if most := slices.Max(dists); most != n-1 && n <= 16 || most > 15 || len(dists) != n {
			t.Errorf("%d distances: %v", n, dists)
		}
	}
}

// P9.1: Write, fixed.

func TestWriteExamples(t *testing.T) {
	for _, x := range []struct {
		l     []api.Token
		last  bool
		asked string
	}{
		{lits("a"), true, "\x4b\x04\x00"},
		{lits("a"), false, "\x4a\x04\x00"},
		{nil, true, "\x03\x00"},
		{nil, false, "\x02\x00"},
	} {
		w := &bits.Writer{}
		Write(w, x.l, 1, x.last)
		if w.Bytes() != x.asked {
			t.Errorf("%v, %v: %x, asked for %x", x.l, x.last, w.Bytes(), x.asked)
		}
	}
}

// Fixed blocks by hand: the start, the codes, the extra bits, the end.
func TestWriteFixedBitByBit(t *testing.T) {
	const start, end = "1" + "10", "0000000"
	for _, x := range []struct {
		l     []api.Token
		asked string
	}{
		{lits("\x00"), "00110000"},
		{lits("\x8f"), "10111111"},
		{lits("\x90"), "110010000"},
		{lits("\xff"), "111111111"},
		{far(3, 1), "0000001" + "00000"},
		{far(10, 4), "0001000" + "00011"},
		{far(11, 5), "0001001" + "0" + "00100" + "0"},
		{far(12, 6), "0001001" + "1" + "00100" + "1"},
		{far(114, 1), "0010111" + "1111" + "00000"},
		{far(115, 1), "11000000" + "0000" + "00000"},
		{far(228, 24579), "11000100" + "10000" + "11101" + "0100000000000"},
		{far(257, 24577), "11000100" + "01111" + "11101" + "0000000000000"},
		{far(258, 32768), "11000101" + "11101" + "1111111111111"},
		{far(258, 32767), "11000101" + "11101" + "0111111111111"},
	} {
		w := &bits.Writer{}
		Write(w, x.l, 1, true)
		holdBits(t, w, start+x.asked+end)
	}
}

func TestWriteEachTokenFixed(t *testing.T) {
	for b := range 256 {
		holdWrite(t, []api.Token{{Lit: byte(b)}}, 1, false, 0)
	}
	holdWrite(t, allLengths(1), 1, true, 0)
	var all []api.Token
	for d := 1; d <= 32768; d++ {
		all = append(all, api.Token{Len: 3, Dist: d})
	}
	holdWrite(t, all, 1, true, 3)
	holdWrite(t, all, 2, true, 3)
}

// All that isn't 2 is fixed, 0 as well.
func TestWriteOfOtherKinds(t *testing.T) {
	l := joined(lits("abc"), far(6, 3), lits("d"))
	w := &bits.Writer{}
	Write(w, l, 1, true)
	fixedBits := written(w)
	for _, kind := range append(odd(), -2, -1, 0, 1, 3, 4, 258, 1<<32+2, math.MinInt+2) {
		if kind == 2 {
			continue
		}
		w := &bits.Writer{}
		Write(w, l, kind, true)
		holdBits(t, w, fixedBits)
	}
}

// P9.1: Write, dynamic.

// By hand: 257 lengths (256 noughts, 1) and 1 (a nought), as 138 and 118 noughts, a 1 and a nought.
func TestWriteNothingDynamic(t *testing.T) {
	// Of 16, 17, 18, 0, and so on up to 1.
	told := "000" + "000" + "100" + "010" + strings.Repeat("000", 13) + "010"
	asked := "01" + "00000" + "00000" + "0111" + told + "0" + "1111111" + "0" + "1101011" + "11" + "10" + "0"
	w := &bits.Writer{}
	Write(w, nil, 2, false)
	holdBits(t, w, "0"+asked)
	w = &bits.Writer{}
	Write(w, []api.Token{}, 2, true)
	holdBits(t, w, "1"+asked)
}

func TestWriteIsTheWords(t *testing.T) {
	for i, l := range lists() {
		for kind := range 4 {
			holdWrite(t, l, kind, i%2 == 0, i%11)
			holdWrite(t, l, kind, i%2 == 1, i%8)
		}
	}
}

func TestWriteBehindOtherBits(t *testing.T) {
	for at := range 18 {
		for kind := 1; kind <= 2; kind++ {
			for _, l := range [][]api.Token{nil, lits("a"), joined(lits("abc"), far(6, 3), lits("d")), far(258, 32768)} {
				holdWrite(t, l, kind, true, at)
				holdWrite(t, l, kind, false, at)
			}
		}
	}
}

// One that goes from the first lengths on into the second: sixteen of 4 behind eight of 4.
func TestHeaderRunsAcross(t *testing.T) {
	lens, dists := Own(crossing())
	if !slices.Equal(lens[256:], []int{5, 4, 4, 4, 4, 4, 4, 4, 4}) || !slices.Equal(dists, slices.Repeat([]int{4}, 16)) {
		t.Fatal(lens[256:], dists)
	}
	h := headed(lens, dists)
	asked := []api.Run{{Sym: 5}, {Sym: 4}, {Sym: 16, Extra: 3}, {Sym: 16, Extra: 3}, {Sym: 16, Extra: 3}, {Sym: 16, Extra: 2}}
	if end := h.folded[len(h.folded)-len(asked):]; !slices.Equal(end, asked) {
		t.Fatal(end)
	}
	holdWrite(t, crossing(), 2, true, 0)
}

// holdTold holds how many lengths of the code of runs a header has: as it says, and as the chapter has it.
func holdTold(t *testing.T, l []api.Token, asked int) {
	t.Helper()
	w := &bits.Writer{}
	Write(w, l, 2, true)
	lens, dists := saidOwn(l)
	r := &bits.Reader{S: w.Bytes()}
	if r.Bits(1) != 1 || r.Bits(2) != 2 || r.Bits(5) != len(lens)-257 || r.Bits(5) != len(dists)-1 {
		t.Fatal("another beginning")
	}
	if n := r.Bits(4) + 4; n != asked || len(saidTold(lens, dists)) != asked {
		t.Errorf("%d lengths in the Order, asked for %d", n, asked)
	}
}

func TestHeaderTellsAsFewAsItCan(t *testing.T) {
	// The end has a length, and 8 is the first one in the Order behind the 4 that are always told: no tokens have fewer.
	holdTold(t, eights(), 5)
	holdWrite(t, eights(), 2, true, 0)
	// 15 is the last one.
	holdTold(t, ladder(15), 19)
	// 1 is the last but one.
	holdTold(t, nil, 18)
	// 2, and 1 isn't there.
	holdTold(t, lits("abc"), 16)
}

// Lengths that no tokens come to, so that fewer than 4 would be left: 4 are told nonetheless.
func TestHeaderTellsFour(t *testing.T) {
	for _, x := range []struct {
		lens, dists []int
		asked       []int
	}{
		{make([]int, 257), []int{0}, []int{0, 0, 1, 0}},
		{make([]int, 259), make([]int, 20), []int{0, 1, 1, 0}},
		{make([]int, 257), make([]int, 20), []int{0, 0, 1, 1}},
	} {
		h := headed(x.lens, x.dists)
		if !slices.Equal(h.told, x.asked) || !slices.Equal(h.told, saidTold(x.lens, x.dists)) {
			t.Errorf("%d and %d lengths: told %v", len(x.lens), len(x.dists), h.told)
		}
		w := &bits.Writer{}
		h.write(w)
		holdBits(t, w, saidHeader(x.lens, x.dists))
		if h.size() != w.N {
			t.Errorf("%d bits, size %d", w.N, h.size())
		}
	}
}

// The code of runs comes up to 7 bits, where it might be longer as well.
func TestHeaderOfAtMostSevenBits(t *testing.T) {
	for most, counts := range map[int][]int{7: seven(), 8: eight(), 9: nine()} {
		l := stepped(counts)
		lens, dists := Own(l)
		weights := make([]int, 19)
		for _, p := range saidFold(slices.Concat(lens, dists)) {
			weights[p.sym]++
		}
		if n := slices.Max(saidLengths(weights, 15)); n != most {
			t.Fatalf("%v: %d bits, if they might be", counts, n)
		}
		h := headed(lens, dists)
		if n := slices.Max(h.lengths); n != 7 && most == 7 || n > 7 || slices.Max(h.told) != n {
			t.Errorf("%v: %d bits, told %v", counts, n, h.told)
		}
		holdWrite(t, l, 2, true, 0)
	}
}

// P9.1: Store.

func TestStoreExamples(t *testing.T) {
	w := &bits.Writer{}
	Store(w, "ab", true)
	Store(w, "", false)
	Store(w, "\x00\xff", false)
	if w.Bytes() != "\x01\x02\x00\xfd\xffab"+"\x00\x00\x00\xff\xff"+"\x00\x02\x00\xfd\xff\x00\xff" {
		t.Errorf("%x", w.Bytes())
	}
}

func TestStoreIsTheWords(t *testing.T) {
	long := strings.Repeat("stevedore\x00\xff", 6000)
	for at := range 18 {
		for _, n := range []int{0, 1, 2, 255, 256, 257} {
			holdStore(t, long[:n], true, at)
			holdStore(t, long[:n], false, at)
		}
	}
	for at := range 9 {
		holdStore(t, long[:65535], at%2 == 0, at)
	}
	holdStore(t, long[:65534], true, 0)
}

// P9.1: Size.

func TestSizeOfStored(t *testing.T) {
	for at := range 30 {
		// The start takes 3 bits, and ends at a whole byte.
		begin := 3
		for (at+begin)%8 > 0 {
			begin++
		}
		for _, raw := range []int{0, 1, 2, 255, 256, 65534, 65535} {
			for _, l := range [][]api.Token{nil, lits("abc"), far(258, 32768)} {
				if n := Size(l, raw, 0, at); n != begin+32+8*raw {
					t.Fatalf("%d bytes behind %d bits: %d", raw, at, n)
				}
			}
		}
		for _, raw := range []int{math.MinInt, math.MinInt + 1, -65536, -65535, -2, -1, 65536, 65537, 1 << 32, 1<<32 + 5, math.MaxInt} {
			if n := Size(lits("a"), raw, 0, at); n != -1 {
				t.Fatalf("%d bytes behind %d bits: %d", raw, at, n)
			}
		}
	}
	if Size(nil, 0, 0, 0) != 40 || Size(nil, 0, 0, 5) != 35 || Size(nil, 0, 0, 6) != 42 || Size(nil, 65535, 0, 0) != 524320 {
		t.Error("sizes")
	}
}

// Of tokens neither raw nor what is ahead is of any account; of stored bytes what is ahead is, by its last byte alone.
func TestSizeHangsOnWhatCounts(t *testing.T) {
	l := joined(lits("abc"), far(6, 3), lits("d"))
	for kind := 1; kind <= 2; kind++ {
		asked := len(saidWrite(l, kind, true))
		for _, x := range odd() {
			if Size(l, x, kind, 0) != asked || Size(l, 10, kind, x) != asked || Size(l, x, kind, x) != asked {
				t.Fatalf("kind %d: %d and %d, %d, %d", kind, x, Size(l, x, kind, 0), Size(l, 10, kind, x), Size(l, x, kind, x))
			}
		}
	}
	for _, at := range odd() {
		if n := Size(l, 10, 0, at); n != Size(l, 10, 0, at&7) {
			t.Fatalf("behind %d bits: %d", at, n)
		}
	}
}

// A block's kind is 0, 1 or 2; what Write is given beside these comes to a fixed one, and so many bits it has.
func TestSizeOfOtherKinds(t *testing.T) {
	for _, l := range [][]api.Token{nil, lits("a"), joined(lits("abc"), far(6, 3), lits("d"))} {
		for _, kind := range append(odd(), -1, 3, 4, 258) {
			if kind < 0 || kind > 2 {
				if n := Size(l, -1, kind, 0); n != len(saidWrite(l, 1, true)) {
					t.Fatalf("kind %d: %d", kind, n)
				}
			}
		}
	}
}

func TestSizeIsTheWords(t *testing.T) {
	random := rand.New(rand.NewSource(92))
	for _, l := range lists() {
		raw, at := random.Intn(300), random.Intn(100)
		for kind := -1; kind <= 3; kind++ {
			if n, asked := Size(l, raw, kind, at), saidSize(l, raw, kind, at); n != asked {
				t.Fatalf("kind %d, %d bytes, behind %d bits: %d, asked for %d", kind, raw, at, n, asked)
			}
		}
	}
}

// P9.1: Choose.

func holdChoose(t *testing.T, l []api.Token, raw, at, asked int) {
	t.Helper()
	if kind := Choose(l, raw, at); kind != asked {
		t.Fatalf("%d tokens, %d bytes, behind %d bits: kind %d, asked for %d; sizes %d, %d, %d", len(l), raw, at, kind, asked, Size(l, raw, 0, at), Size(l, raw, 1, at), Size(l, raw, 2, at))
	}
}

// hard is bytes that have 9 bits each in a fixed block, and whose own codes cost much to tell.
func hard(n int) []api.Token {
	var out []api.Token
	for i := range n {
		out = append(out, api.Token{Lit: byte(144 + 3*i)})
	}
	return out
}

func TestChooseExamples(t *testing.T) {
	holdChoose(t, lits("a"), 1, 0, 1)
	holdChoose(t, nil, 0, 0, 1)
	holdChoose(t, slices.Repeat(lits("\xff"), 500), 500, 0, 2)
	holdChoose(t, eights(), 255, 0, 0)
}

// Bytes of 9 bits each, as many as a stored block's beginning has bits more than a fixed one's: both have as many. One byte less, and the fixed one is it.
func TestChooseStoredOrFixed(t *testing.T) {
	for at := range 8 {
		n := 25 + (13-at)%8
		l := hard(n)
		if Size(l, n, 0, at) != Size(l, n, 1, at) || Size(l, n, 2, at) <= Size(l, n, 1, at) {
			t.Fatal("no tie behind", at, "bits:", Size(l, n, 0, at), Size(l, n, 1, at), Size(l, n, 2, at))
		}
		holdChoose(t, l, n, at, 0)
		holdChoose(t, hard(n+1), n+1, at, 0)
		holdChoose(t, hard(n-1), n-1, at, 1)
	}
}

// raw and at let a stored block be of any size: as many bits as the others have, one more, or one less.
func TestChooseStoredBySize(t *testing.T) {
	for _, l := range lists() {
		one, two := len(saidWrite(l, 1, false)), len(saidWrite(l, 2, false))
		other, least := 1, one
		if two < one {
			other, least = 2, two
		}
		for by := -2; by <= 2; by++ {
			size := least + by
			at := -size & 7
			raw := (size - 35) / 8
			if size < 35 || raw > 65535 {
				continue
			}
			if (size-35)%8 != Size(nil, raw, 0, at)-35-8*raw {
				t.Fatal("no stored block of", size, "bits behind", at)
			}
			asked := other
			if by <= 0 {
				asked = 0
			}
			holdChoose(t, l, raw, at, asked)
		}
	}
}

// Where raw lets no stored one be, it isn't it.
func TestChooseWithoutStored(t *testing.T) {
	for _, raw := range []int{math.MinInt, -65536, -2, -1, 65536, 65537, 1 << 40, math.MaxInt} {
		for _, at := range []int{0, 3, 5, 7} {
			holdChoose(t, lits("a"), raw, at, 1)
			holdChoose(t, nil, raw, at, 1)
			holdChoose(t, hard(31), raw, at, 1)
			holdChoose(t, slices.Repeat(lits("\xff"), 500), raw, at, 2)
		}
	}
	holdChoose(t, slices.Repeat(lits("\xff"), 500), 0, 0, 0)
	// The most bytes that may be, one more, and none less: of many tokens, so that it is the least.
	long := slices.Repeat(eights(), 300)
	holdChoose(t, long, 65535, 0, 0)
	holdChoose(t, long, 65536, 0, 2)
	holdChoose(t, long, 0, 0, 0)
	holdChoose(t, long, -1, 0, 2)
}

// A fixed block and a dynamic one of as many bits, without a stored one or with one that is greater: the fixed one.
func TestChooseFixedOrDynamic(t *testing.T) {
	random := rand.New(rand.NewSource(93))
	ties, fixeds, dynamics := 0, 0, 0
	for range 6000 {
		l := randomTokens(random, random.Intn(120))
		one, two := Size(l, -1, 1, 0), Size(l, -1, 2, 0)
		asked := 1
		switch {
		case one == two:
			ties++
			if one != len(saidWrite(l, 1, true)) || two != len(saidWrite(l, 2, true)) {
				t.Fatal("other sizes")
			}
		case one < two:
			fixeds++
		default:
			asked = 2
			dynamics++
		}
		holdChoose(t, l, -1, 0, asked)
		holdChoose(t, l, 65535, 0, asked)
	}
	if ties < 3 || fixeds < 500 || dynamics < 500 {
		t.Error("too few of a kind:", ties, fixeds, dynamics)
	}
}

func TestChooseIsTheWords(t *testing.T) {
	random := rand.New(rand.NewSource(94))
	var seen [3]int
	for i, l := range lists() {
		n := 0
		for _, x := range l {
			n += max(1, x.Len)
		}
		for _, raw := range []int{n, len(l), random.Intn(3 * (n + 1)), -1} {
			asked := saidChoose(l, min(raw, 65536), i%8)
			seen[asked]++
			holdChoose(t, l, raw, i%8, asked)
		}
	}
	if slices.Min(seen[:]) < 20 {
		t.Error("too few of a kind:", seen)
	}
}

// P9.2

// All that stands has a code of at most 15 bits, and the lengths make codes.
func TestAllThatStandsHasACode(t *testing.T) {
	for _, l := range lists() {
		often, far := Weights(l)
		lens, dists := Own(l)
		for s, n := range often {
			if (n > 0) != (s < len(lens) && lens[s] > 0) {
				t.Fatalf("symbol %d stands %d times: %v", s, n, lens)
			}
		}
		for s, n := range far {
			if (n > 0) != (s < len(dists) && dists[s] > 0) {
				t.Fatalf("distance's symbol %d stands %d times: %v", s, n, dists)
			}
		}
		if canon.Check(lens) != api.OK || canon.Check(dists) != api.OK {
			t.Fatal("no code:", lens, dists)
		}
	}
	lens, dists := Plain()
	if canon.Check(lens) != api.OK || canon.Check(dists) != api.OK {
		t.Error("no fixed code")
	}
}

// read is the tokens that a block's bits tell by these codes.
func read(t *testing.T, r *bits.Reader, lens, dists []int) []api.Token {
	t.Helper()
	first, _ := canon.Build(lens)
	second, _ := canon.Build(dists)
	var out []api.Token
	for {
		sym := canon.Read(r, first)
		switch {
		case sym < 0:
			t.Fatal("no symbol")
		case sym == 256:
			return out
		case sym < 256:
			out = append(out, api.Token{Lit: byte(sym)})
			continue
		}
		n, extra, _ := symbol.LenBase(sym)
		n += r.Bits(extra)
		d, extra, _ := symbol.DistBase(canon.Read(r, second))
		d += r.Bits(extra)
		out = append(out, api.Token{Len: n, Dist: d})
	}
}

// What is written by these codes is read by them, up to the last bit.
func TestTokensAreReadAgain(t *testing.T) {
	for _, l := range lists() {
		var asked []api.Token
		for _, x := range l {
			if x.Len > 0 {
				asked = append(asked, far(x.Len, x.Dist)...)
			} else {
				asked = append(asked, api.Token{Lit: x.Lit})
			}
		}
		w := &bits.Writer{}
		Write(w, l, 1, true)
		r := &bits.Reader{S: w.Bytes(), At: 3}
		lens, dists := Plain()
		if got := read(t, r, lens, dists); !slices.Equal(got, asked) || r.At != w.N || r.Bad {
			t.Fatalf("fixed: %v; asked for %v", got, asked)
		}
		w = &bits.Writer{}
		Write(w, l, 2, true)
		lens, dists = Own(l)
		r = &bits.Reader{S: w.Bytes(), At: 3 + headed(lens, dists).size()}
		if got := read(t, r, lens, dists); !slices.Equal(got, asked) || r.At != w.N || r.Bad {
			t.Fatalf("dynamic: %v; asked for %v", got, asked)
		}
	}
}

// Go's own reader opens blocks of all kinds, one behind the other, wherever they begin.
func TestBlocksAreOpened(t *testing.T) {
	random := rand.New(rand.NewSource(95))
	for range 150 {
		w := &bits.Writer{}
		asked := ""
		for range random.Intn(12) {
			s := strings.Repeat(string(rune('a'+random.Intn(26))), random.Intn(9)) + asked[random.Intn(len(asked)+1):]
			s = s[:min(len(s), 5000)]
			l := match.Tokens(s, random.Intn(10))
			kind := random.Intn(4)
			if kind == 3 {
				kind = Choose(l, len(s), w.N)
			}
			size := w.N + Size(l, len(s), kind, w.N)
			if kind == 0 {
				Store(w, s, false)
			} else {
				Write(w, l, kind, false)
			}
			if w.N != size {
				t.Fatalf("kind %d: ends at %d, by its size at %d", kind, w.N, size)
			}
			asked += s
		}
		Write(w, nil, 1+random.Intn(2), true)
		if s := opened(t, w); s != asked {
			t.Fatalf("%q, asked for %q", s, asked)
		}
	}
}

// Texts whose codes are at the edges, and matches from as far as they may be.
func TestEdgesAreOpened(t *testing.T) {
	history := joined(lits("stevedore"), slices.Repeat(far(258, 9), 130))
	for _, l := range [][]api.Token{nil, lits("abc"), joined(history, allLengths(1)), joined(history, allLengths(32768)), joined(history, allDists(3)), joined(history, far(3, 24577)), ladder(15), ladder(19), stepped(seven()), stepped(nine()), joined(history, crossing()), eights()} {
		asked, e := match.Expand(l, 1<<20)
		if e != api.OK {
			t.Fatal(e)
		}
		for kind := 1; kind <= 2; kind++ {
			w := &bits.Writer{}
			Write(w, l, kind, true)
			if s := opened(t, w); s != asked {
				t.Fatalf("kind %d: %d bytes, asked for %d", kind, len(s), len(asked))
			}
		}
	}
}

// P1, and the rules.

func TestNothingIsChangedOrKept(t *testing.T) {
	made := func() []api.Token { return joined(lits("abc"), far(6, 3), lits("d"), lits("zzzz")) }
	room := made()
	l := room[:5]
	w := &bits.Writer{}
	Write(w, l, 1, false)
	Write(w, l, 2, true)
	Weights(l)
	lens, dists := Own(l)
	Size(l, 10, 2, 0)
	Choose(l, 10, 0)
	if !slices.Equal(room, made()) {
		t.Fatal("changed:", room)
	}
	clear(room)
	askedLens, askedDists := saidOwn(made()[:5])
	holdLengths(t, "own, after what was handed in was changed", lens, dists, askedLens, askedDists)
	holdBits(t, w, saidWrite(made()[:5], 1, false)+saidWrite(made()[:5], 2, true))
	clear(lens[:cap(lens)])
	clear(dists[:cap(dists)])
	a, b := Own(made()[:5])
	holdLengths(t, "own, after an answer was changed", a, b, askedLens, askedDists)
}

// A call hangs on its arguments alone: others in between change nothing.
func TestNothingIsKeptBetweenCalls(t *testing.T) {
	l := joined(lits("abc"), far(6, 3), lits("d"))
	for _, other := range lists()[:60] {
		Write(&bits.Writer{}, other, 2, true)
		Choose(other, 10, 0)
		Own(other)
		holdWrite(t, l, 1, true, 0)
		holdWrite(t, l, 2, true, 0)
	}
}

func TestLongListsEnd(t *testing.T) {
	begin := time.Now()
	random := rand.New(rand.NewSource(96))
	l := randomTokens(random, 1000000)
	w := &bits.Writer{}
	kind := Choose(l, -1, 0)
	Write(w, l, kind, true)
	if w.N != Size(l, -1, kind, 0) {
		t.Error("another size")
	}
	if spent := time.Since(begin); spent > time.Minute {
		t.Error("took", spent)
	}
}

// Tokens for which nothing is asked don't panic either, nor does a stored block of too many bytes.
func TestNothingPanics(t *testing.T) {
	for _, a := range odd() {
		for _, b := range []int{math.MinInt, -1, 0, 1, 2, 3, 258, 259, 32768, 32769, math.MaxInt} {
			for _, l := range [][]api.Token{far(a, b), far(b, a), joined(lits("x"), far(a, a))} {
				Weights(l)
				Own(l)
				Write(&bits.Writer{}, l, 1, true)
				Write(&bits.Writer{}, l, 2, true)
				Choose(l, a, b)
			}
			for kind := -1; kind <= 3; kind++ {
				Size(lits("x"), a, kind, b)
				Size(lits("x"), b, kind, a)
			}
		}
	}
	Store(&bits.Writer{}, strings.Repeat("x", 65536), true)
	Store(&bits.Writer{N: -5}, "x", true)
	Write(&bits.Writer{N: 3}, lits("x"), 2, true)
}
