package symbol

import (
	"math"
	"math/rand"
	"testing"
)

// row is a symbol of RFC 1951, section 3.2.5: its number, its extra bits, its least value and its greatest.
type row struct{ sym, extra, least, most int }

// lens is the table of lengths as the RFC prints it. By the chapter the greatest symbol is a length's: so 284 ends at 257.
func lens() []row {
	return []row{
		{257, 0, 3, 3}, {258, 0, 4, 4}, {259, 0, 5, 5}, {260, 0, 6, 6}, {261, 0, 7, 7},
		{262, 0, 8, 8}, {263, 0, 9, 9}, {264, 0, 10, 10}, {265, 1, 11, 12}, {266, 1, 13, 14},
		{267, 1, 15, 16}, {268, 1, 17, 18}, {269, 2, 19, 22}, {270, 2, 23, 26}, {271, 2, 27, 30},
		{272, 2, 31, 34}, {273, 3, 35, 42}, {274, 3, 43, 50}, {275, 3, 51, 58}, {276, 3, 59, 66},
		{277, 4, 67, 82}, {278, 4, 83, 98}, {279, 4, 99, 114}, {280, 4, 115, 130}, {281, 5, 131, 162},
		{282, 5, 163, 194}, {283, 5, 195, 226}, {284, 5, 227, 257}, {285, 0, 258, 258},
	}
}

// dists is the table of distances as the RFC prints it.
func dists() []row {
	return []row{
		{0, 0, 1, 1}, {1, 0, 2, 2}, {2, 0, 3, 3}, {3, 0, 4, 4}, {4, 1, 5, 6},
		{5, 1, 7, 8}, {6, 2, 9, 12}, {7, 2, 13, 16}, {8, 3, 17, 24}, {9, 3, 25, 32},
		{10, 4, 33, 48}, {11, 4, 49, 64}, {12, 5, 65, 96}, {13, 5, 97, 128}, {14, 6, 129, 192},
		{15, 6, 193, 256}, {16, 7, 257, 384}, {17, 7, 385, 512}, {18, 8, 513, 768}, {19, 8, 769, 1024},
		{20, 9, 1025, 1536}, {21, 9, 1537, 2048}, {22, 10, 2049, 3072}, {23, 10, 3073, 4096}, {24, 11, 4097, 6144},
		{25, 11, 6145, 8192}, {26, 12, 8193, 12288}, {27, 12, 12289, 16384}, {28, 13, 16385, 24576}, {29, 13, 24577, 32768},
	}
}

// kind is one of the two: its calls, its table, and the ends of what has a symbol.
type kind struct {
	name string
	base func(int) (int, int, bool)
	find func(int) (int, int, int, bool)
	rows []row
	// saidBase is the chapter's words of a symbol, done plainly.
	saidBase          func(int) (int, int, bool)
	firstSym, lastSym int
	least, most       int
}

func kinds() []kind {
	return []kind{
		{"length", LenBase, Len, lens(), saidLenBase, 257, 285, 3, 258},
		{"distance", DistBase, Dist, dists(), saidDistBase, 0, 29, 1, 32768},
	}
}

// power is 2 to the n.
func power(n int) int {
	out := 1
	for range n {
		out *= 2
	}
	return out
}

func saidLenBase(s int) (int, int, bool) {
	if s < 257 || s > 285 {
		return 0, 0, false
	}
	if s < 265 {
		return s - 254, 0, true
	}
	if s == 285 {
		return 258, 0, true
	}
	k := s - 265
	extra := 1 + k/4
	return 3 + (4+k%4)*power(extra), extra, true
}

func saidDistBase(d int) (int, int, bool) {
	if d < 0 || d > 29 {
		return 0, 0, false
	}
	if d < 4 {
		return d + 1, 0, true
	}
	extra := d/2 - 1
	return 1 + (2+d%2)*power(extra), extra, true
}

// said is the chapter's words of a length or distance: the greatest symbol whose least one isn't above it.
func (k kind) said(n int) (int, int, int, bool) {
	if n < k.least || n > k.most {
		return 0, 0, 0, false
	}
	for s := k.lastSym; ; s-- {
		if least, extra, is := k.saidBase(s); is && least <= n {
			return s, extra, n - least, true
		}
	}
}

// odd is numbers from all over int, most of them nobody's: its ends, those of lesser types, and what wraps round to something that is one's.
func odd() []int {
	out := []int{math.MinInt, math.MinInt + 1, math.MaxInt - 1, math.MaxInt, 0, -1, -2, 256, 286, 30, 31, 32}
	for n := range 63 {
		for _, by := range []int{0, 1, 2, 3, 4, 5, 10, 11, 29, 30, 257, 258, 265, 284, 285, 286, 32768} {
			out = append(out, 1<<n+by, 1<<n-by, -1<<n+by, -1<<n-by)
		}
	}
	random := rand.New(rand.NewSource(6))
	for range 20000 {
		n := int(random.Uint64()) >> random.Intn(63)
		out = append(out, n, -n)
	}
	return out
}

// around is all numbers from far ahead of the first that is one's till far behind the last.
func around() []int {
	var out []int
	for n := -70000; n <= 140000; n++ {
		out = append(out, n)
	}
	return out
}

// P6.1: of a symbol.

func (k kind) holdBase(t *testing.T, sym, least, extra int, is bool) {
	t.Helper()
	a, b, c := k.base(sym)
	if a != least || b != extra || c != is {
		t.Fatalf("%s's symbol %d: %d, %d, %v; asked for %d, %d, %v", k.name, sym, a, b, c, least, extra, is)
	}
}

func TestBaseIsTheTable(t *testing.T) {
	for _, k := range kinds() {
		if len(k.rows) != k.lastSym-k.firstSym+1 {
			t.Fatal("rows", len(k.rows))
		}
		for i, x := range k.rows {
			if x.sym != k.firstSym+i {
				t.Fatal("row", i)
			}
			k.holdBase(t, x.sym, x.least, x.extra, true)
		}
	}
}

func TestBaseOfNoSymbol(t *testing.T) {
	for _, sym := range []int{256, 286, 287, 255, 0, 3, 29, -257, -285, math.MinInt, math.MaxInt} {
		if a, b, is := LenBase(sym); a != 0 || b != 0 || is {
			t.Errorf("length's symbol %d: %d, %d, %v", sym, a, b, is)
		}
	}
	for _, sym := range []int{-1, 30, 31, 32, -29, 257, 285, math.MinInt, math.MaxInt} {
		if a, b, is := DistBase(sym); a != 0 || b != 0 || is {
			t.Errorf("distance's symbol %d: %d, %d, %v", sym, a, b, is)
		}
	}
}

func TestBaseIsTheWords(t *testing.T) {
	for _, k := range kinds() {
		for _, sym := range append(around(), odd()...) {
			least, extra, is := k.saidBase(sym)
			k.holdBase(t, sym, least, extra, is)
		}
	}
}

// P6.1: of a length and a distance.

func (k kind) holdFind(t *testing.T, n, sym, extra, above int, is bool) {
	t.Helper()
	a, b, c, d := k.find(n)
	if a != sym || b != extra || c != above || d != is {
		t.Fatalf("%s %d: %d, %d, %d, %v; asked for %d, %d, %d, %v", k.name, n, a, b, c, d, sym, extra, above, is)
	}
}

func TestFindExamples(t *testing.T) {
	k := kinds()[0]
	for _, x := range [][4]int{{258, 285, 0, 0}, {12, 265, 1, 1}, {3, 257, 0, 0}, {10, 264, 0, 0}, {11, 265, 1, 0}, {226, 283, 5, 31}, {227, 284, 5, 0}, {257, 284, 5, 30}} {
		k.holdFind(t, x[0], x[1], x[2], x[3], true)
	}
	k = kinds()[1]
	for _, x := range [][4]int{{9, 6, 2, 0}, {1, 0, 0, 0}, {4, 3, 0, 0}, {5, 4, 1, 0}, {6, 4, 1, 1}, {24576, 28, 13, 8191}, {24577, 29, 13, 0}, {32768, 29, 13, 8191}} {
		k.holdFind(t, x[0], x[1], x[2], x[3], true)
	}
}

func TestFindNone(t *testing.T) {
	for _, n := range []int{2, 1, 0, -1, -3, -258, 259, 260, 514, 32768, math.MinInt, math.MaxInt, math.MaxInt32 + 4, math.MaxUint32 + 4} {
		kinds()[0].holdFind(t, n, 0, 0, 0, false)
	}
	for _, n := range []int{0, -1, -32768, 32769, 65536, 65537, math.MinInt, math.MaxInt, math.MaxInt32 + 2, math.MaxUint32 + 2} {
		kinds()[1].holdFind(t, n, 0, 0, 0, false)
	}
}

// Each row's values have its symbol, from what is extra at its least to what is extra at its most; and the rows leave nothing out.
func TestFindIsTheTable(t *testing.T) {
	for _, k := range kinds() {
		next := k.least
		for _, x := range k.rows {
			if x.least != next {
				t.Fatal(k.name, "row", x)
			}
			for ; next <= x.most; next++ {
				k.holdFind(t, next, x.sym, x.extra, next-x.least, true)
			}
		}
		if next != k.most+1 {
			t.Fatal(k.name, "ends at", next)
		}
	}
}

func TestFindIsTheWords(t *testing.T) {
	for _, k := range kinds() {
		for _, n := range append(around(), odd()...) {
			sym, extra, above, is := k.said(n)
			k.holdFind(t, n, sym, extra, above, is)
		}
	}
}

// P6.2

// What is extra fits into its bits, and the symbol's least one and what is extra are the number again.
func TestExtraFits(t *testing.T) {
	for _, k := range kinds() {
		for n := k.least; n <= k.most; n++ {
			sym, extra, above, is := k.find(n)
			least, bits, known := k.base(sym)
			if !is || !known || bits != extra || least+above != n {
				t.Fatalf("%s %d: %d, %d, %d, %v; its symbol's: %d, %d, %v", k.name, n, sym, extra, above, is, least, bits, known)
			}
			if above < 0 || above >= power(extra) {
				t.Fatalf("%s %d: %d doesn't fit into %d bits", k.name, n, above, extra)
			}
		}
	}
}

// Whatever a symbol's extra bits are, the number that they make has a symbol: this one, but for 258, which 284 with all its bits set makes too.
func TestAllExtrasAreTaken(t *testing.T) {
	for _, k := range kinds() {
		for sym := k.firstSym; sym <= k.lastSym; sym++ {
			least, extra, _ := k.base(sym)
			for above := range power(extra) {
				if sym == 284 && above == 31 {
					k.holdFind(t, least+above, 285, 0, 0, true)
					continue
				}
				k.holdFind(t, least+above, sym, extra, above, true)
			}
		}
	}
}

// P1

func TestNothingPanics(t *testing.T) {
	for _, n := range append(around(), odd()...) {
		LenBase(n)
		DistBase(n)
		Len(n)
		Dist(n)
	}
}
