package canon

import (
	"math"
	"math/big"
	"math/rand"
	"slices"
	"strings"
	"testing"

	"stevedore/api"
	"stevedore/bits"
	"stevedore/weigh"
)

// same is n lengths l.
func same(n, l int) []int {
	return slices.Repeat([]int{l}, n)
}

// joined is the lists one behind the other.
func joined(lists ...[]int) []int {
	return slices.Concat(lists...)
}

// stairs is lengths from 1 to n, the last one twice: a full code of the greatest depth for so many symbols.
func stairs(n int) []int {
	out := make([]int, 0, n+1)
	for l := 1; l <= n; l++ {
		out = append(out, l)
	}
	return append(out, n)
}

// fixed is the lengths of the fixed code of RFC 1951.
func fixed() []int {
	return joined(same(144, 8), same(112, 9), same(24, 7), same(8, 8))
}

// split is a full code of n symbols (2 or more): one of them is put in two, again and again; then noughts and symbols are mixed.
func split(random *rand.Rand, n, noughts int) []int {
	out := []int{1, 1}
	for len(out) < n {
		at := random.Intn(len(out))
		if out[at] == 15 {
			at = slices.Index(out, slices.Min(out))
		}
		out[at]++
		out = append(out, out[at])
	}
	out = append(out, make([]int, noughts)...)
	random.Shuffle(len(out), func(i, j int) { out[i], out[j] = out[j], out[i] })
	return out
}

// full is lengths of many kinds that make full codes.
func full() [][]int {
	out := [][]int{
		{1, 1}, {0, 1, 0, 0, 1}, {2, 2, 2, 2}, {1, 2, 2}, {2, 1, 2}, {2, 2, 1}, {3, 3, 3, 3, 3, 2, 4, 4},
		fixed(), same(32, 5), same(512, 9), same(1<<15, 15),
		joined([]int{1}, same(1<<14, 15)), joined(same(1<<14, 15), []int{1}),
		joined(make([]int, 1000), []int{1}, make([]int, 1000), []int{1}),
	}
	for n := 1; n <= 15; n++ {
		down := stairs(n)
		slices.Reverse(down)
		out = append(out, stairs(n), down)
	}
	random := rand.New(rand.NewSource(1))
	for range 150 {
		out = append(out, split(random, 2+random.Intn(40), random.Intn(10)))
		out = append(out, split(random, 2+random.Intn(300), random.Intn(300)))
	}
	return out
}

// codes is lengths of all kinds that make codes.
func codes() [][]int {
	out := append(full(), nil, []int{}, []int{0}, make([]int, 19), make([]int, 70000))
	return append(out, []int{1}, []int{0, 1}, []int{1, 0}, append(make([]int, 29), 1), joined(make([]int, 70000), []int{1}, make([]int, 5)))
}

// makes is the chapter's words: whether lengths make a code.
func makes(lengths []int) bool {
	var above []int
	for _, n := range lengths {
		if n < 0 || n > 15 {
			return false
		}
		if n > 0 {
			above = append(above, n)
		}
	}
	if len(above) == 0 {
		return true
	}
	if len(above) == 1 {
		return above[0] == 1
	}
	var times [16]int64
	for _, n := range above {
		times[n]++
	}
	sum := new(big.Rat)
	for n := 1; n <= 15; n++ {
		sum.Add(sum, big.NewRat(times[n], int64(math.Pow(2, float64(n)))))
	}
	return sum.Cmp(big.NewRat(1, 1)) == 0
}

// order is the symbols that have a length, by length, then number.
func order(lengths []int) []int {
	var out []int
	for s, n := range lengths {
		if n > 0 {
			out = append(out, s)
		}
	}
	slices.SortStableFunc(out, func(a, b int) int { return lengths[a] - lengths[b] })
	return out
}

// numbers is the chapter's words: each symbol's number, one from the other.
func numbers(lengths []int) []int {
	out := make([]int, len(lengths))
	last := -1
	for _, s := range order(lengths) {
		if last >= 0 {
			out[s] = out[last] + 1
			for range lengths[s] - lengths[last] {
				out[s] *= 2
			}
		}
		last = s
	}
	return out
}

// digits is the n lowest bits of a number, the highest one first.
func digits(number, n int) string {
	out := make([]byte, n)
	for i := n - 1; i >= 0; i-- {
		out[i] = byte('0' + number%2)
		number /= 2
	}
	return string(out)
}

// spelt is of each symbol that has a length its number's bits.
func spelt(lengths []int) map[string]int {
	out := map[string]int{}
	for s, number := range numbers(lengths) {
		if lengths[s] > 0 {
			out[digits(number, lengths[s])] = s
		}
	}
	return out
}

// found is the chapter's words for Read: the symbol that the bits begin with, how many bits that took, and whether they were too few.
func found(words map[string]int, row string) (int, int, bool) {
	for n := 1; n <= 15; n++ {
		if n > len(row) {
			return -1, 0, true
		}
		if s, ok := words[row[:n]]; ok {
			return s, n, false
		}
	}
	return -1, 15, false
}

// packed is bits as bytes, the lowest of a byte first; those behind them are 0.
func packed(row string) string {
	w := &bits.Writer{}
	for i := range len(row) {
		w.Bit(int(row[i]))
	}
	return w.Bytes()
}

// built is Build's code, of lengths that make one.
func built(t *testing.T, lengths []int) api.Code {
	t.Helper()
	c, e := Build(lengths)
	if e != api.OK {
		t.Fatalf("Build(%v): %d", brief(lengths), e)
	}
	return c
}

// brief is a list, or what it begins with.
func brief(l []int) []int {
	return l[:min(len(l), 40)]
}

// refused fails, unless none of the three takes the lengths.
func refused(t *testing.T, lengths []int) {
	t.Helper()
	if e := Check(lengths); e != api.ErrCode {
		t.Errorf("Check(%v, %d in all) = %d", brief(lengths), len(lengths), e)
	}
	if l, e := Codes(lengths); e != api.ErrCode || len(l) != 0 {
		t.Errorf("Codes(%v, %d in all) = %v, %d", brief(lengths), len(lengths), brief(l), e)
	}
	if c, e := Build(lengths); e != api.ErrCode || c.Counts != [16]int{} || len(c.Symbols) != 0 {
		t.Errorf("Build(%v, %d in all) = %v, %d", brief(lengths), len(lengths), c.Counts, e)
	}
}

// taken fails, unless all three take the lengths, and tell what the chapter's words do.
func taken(t *testing.T, lengths []int) {
	t.Helper()
	if e := Check(lengths); e != api.OK {
		t.Errorf("Check(%v) = %d", brief(lengths), e)
	}
	if l, e := Codes(lengths); e != api.OK || !slices.Equal(l, numbers(lengths)) {
		t.Errorf("Codes(%v) = %v, %d", brief(lengths), brief(l), e)
	}
	var counts [16]int
	for _, n := range lengths {
		counts[n]++
	}
	counts[0] = 0
	c, e := Build(lengths)
	if e != api.OK || c.Counts != counts || !slices.Equal(c.Symbols, order(lengths)) {
		t.Errorf("Build(%v) = %v, %v, %d", brief(lengths), c.Counts, brief(c.Symbols), e)
	}
}

// P5.1

func TestExamples(t *testing.T) {
	cases := []struct {
		what                     string
		lengths, codes, symbols  []int
		ones, twos, threes, four int
	}{
		{"the chapter's", []int{3, 3, 3, 3, 3, 2, 4, 4}, []int{2, 3, 4, 5, 6, 0, 14, 15}, []int{5, 0, 1, 2, 3, 4, 6, 7}, 0, 1, 5, 2},
		{"no lengths", nil, nil, nil, 0, 0, 0, 0},
		{"none with a length", []int{0, 0, 0}, []int{0, 0, 0}, nil, 0, 0, 0, 0},
		{"one", []int{1}, []int{0}, []int{0}, 1, 0, 0, 0},
		{"one, not the first", []int{0, 0, 1, 0}, []int{0, 0, 0, 0}, []int{2}, 1, 0, 0, 0},
		{"two", []int{1, 1}, []int{0, 1}, []int{0, 1}, 2, 0, 0, 0},
		{"two, with noughts", []int{0, 1, 0, 1}, []int{0, 0, 0, 1}, []int{1, 3}, 2, 0, 0, 0},
		{"the longer ones first", []int{2, 2, 1}, []int{2, 3, 0}, []int{2, 0, 1}, 1, 2, 0, 0},
		{"longer by two bits at once", []int{3, 1, 3, 3, 3}, []int{4, 0, 5, 6, 7}, []int{1, 0, 2, 3, 4}, 1, 0, 4, 0},
		{"of two bits alone", []int{2, 2, 2, 2}, []int{0, 1, 2, 3}, []int{0, 1, 2, 3}, 0, 4, 0, 0},
		{"four kinds", []int{4, 3, 0, 2, 1, 4}, []int{14, 6, 0, 2, 0, 15}, []int{4, 3, 1, 0, 5}, 1, 1, 1, 2},
	}
	for _, c := range cases {
		if e := Check(c.lengths); e != api.OK {
			t.Errorf("%s: Check %d", c.what, e)
		}
		if l, e := Codes(c.lengths); e != api.OK || !slices.Equal(l, c.codes) {
			t.Errorf("%s: Codes %v, %d", c.what, l, e)
		}
		x, e := Build(c.lengths)
		counts := [16]int{1: c.ones, 2: c.twos, 3: c.threes, 4: c.four}
		if e != api.OK || x.Counts != counts || !slices.Equal(x.Symbols, c.symbols) {
			t.Errorf("%s: Build %v, %d", c.what, x, e)
		}
	}
}

func TestFixedCodesAreTheRFCs(t *testing.T) {
	l, e := Codes(fixed())
	if e != api.OK || len(l) != 288 {
		t.Fatalf("%d numbers, %d", len(l), e)
	}
	for s, want := range map[int]int{0: 0x30, 143: 0xbf, 144: 0x190, 255: 0x1ff, 256: 0, 279: 0x17, 280: 0xc0, 287: 0xc7} {
		if l[s] != want {
			t.Errorf("symbol %d: %x, not %x", s, l[s], want)
		}
	}
}

func TestCodesAreTaken(t *testing.T) {
	for _, lengths := range codes() {
		if !makes(lengths) {
			t.Fatalf("%v make no code", brief(lengths))
		}
		taken(t, lengths)
	}
}

// All lists of up to six lengths from 0 to 4, and of up to four from -1 to 16.
func TestSmallLists(t *testing.T) {
	good := 0
	try := func(most, from, kinds int) {
		for n := range most + 1 {
			lengths := make([]int, n)
			for code := range int(math.Pow(float64(kinds), float64(n))) {
				for i := range lengths {
					lengths[i] = from + code%kinds
					code /= kinds
				}
				if !makes(lengths) {
					refused(t, lengths)
					continue
				}
				good++
				taken(t, lengths)
			}
		}
	}
	try(6, 0, 5)
	try(4, -1, 18)
	if good < 500 {
		t.Errorf("only %d codes", good)
	}
}

// One symbol alone has length 1: no other.
func TestOneSymbol(t *testing.T) {
	for n := 1; n <= 15; n++ {
		for _, noughts := range []int{0, 1, 30} {
			for _, lengths := range [][]int{append([]int{n}, make([]int, noughts)...), append(make([]int, noughts), n)} {
				if n == 1 {
					taken(t, lengths)
				} else {
					refused(t, lengths)
				}
			}
		}
	}
}

// 15 may be, 16 and -1 not, wherever they stand.
func TestLengthsThatMayNotBe(t *testing.T) {
	wrong := []int{math.MinInt, math.MinInt + 1, -1 << 32, 1 - 1<<32, -256, -16, -15, -2, -1, 16, 17, 31, 32, 33, 63, 64, 65, 255, 256, 257, 1<<16 + 1, 1<<32 + 1, math.MaxInt - 1, math.MaxInt}
	for _, n := range wrong {
		refused(t, []int{n})
		refused(t, []int{0, n})
		refused(t, []int{n, n})
		refused(t, []int{1, n})
		for _, good := range [][]int{{1, 1}, {0, 0}, {0, 1}, stairs(15), fixed()} {
			refused(t, joined([]int{n}, good))
			refused(t, joined(good, []int{n}))
			refused(t, joined(good[:1], []int{n}, good[1:]))
		}
	}
	taken(t, stairs(15))
	refused(t, joined(stairs(15)[:15], []int{16, 16}))
}

// A full code with one symbol less isn't full, with one more it is more than that.
func TestNotFullAndMoreThanFull(t *testing.T) {
	for _, lengths := range full() {
		for n := 1; n <= 15; n++ {
			refused(t, joined(lengths, []int{n}))
			refused(t, joined([]int{n}, lengths))
		}
		at := order(lengths)
		if len(at) < 3 {
			continue
		}
		for _, s := range []int{at[0], at[len(at)/2], at[len(at)-1]} {
			less := slices.Clone(lengths)
			less[s] = 0
			refused(t, less)
			longer := slices.Clone(lengths)
			longer[s]++
			refused(t, longer)
			shorter := slices.Clone(lengths)
			if shorter[s] > 1 {
				shorter[s]--
				refused(t, shorter)
			}
		}
	}
	refused(t, []int{2, 2})
	refused(t, []int{1, 2})
	refused(t, []int{1, 1, 1})
	refused(t, []int{15, 15})
	refused(t, []int{1, 15})
}

// Sums that come back to 1 in a narrow number, but aren't it; and those that are more than full early and have much behind.
func TestMuchMoreThanFull(t *testing.T) {
	refused(t, same(1<<15-1, 15))
	refused(t, same(1<<15+1, 15))
	refused(t, same(1<<16, 15))
	refused(t, same(1<<20, 15))
	refused(t, same(1<<17+2, 1))
	refused(t, same(1<<18, 1))
	refused(t, same(1<<18, 8))
	refused(t, joined(same(3, 1), same(1<<17, 15)))
	refused(t, joined(same(1<<17, 15), same(2, 1)))
}

func TestWeighedLengthsMakeCodes(t *testing.T) {
	random := rand.New(rand.NewSource(2))
	for range 200 {
		weights := make([]int, random.Intn(300))
		for i := range weights {
			if random.Intn(3) > 0 {
				weights[i] = random.Intn(1 << random.Intn(30))
			}
		}
		lengths, e := weigh.Lengths(weights, 15)
		if e != api.OK {
			t.Fatalf("Lengths: %d", e)
		}
		taken(t, lengths)
	}
}

func TestNothingIsChangedOrKept(t *testing.T) {
	for _, lengths := range codes() {
		room := append(slices.Clone(lengths), 77, 78)
		given := room[:len(lengths)]
		l, _ := Codes(given)
		c, _ := Build(given)
		Check(given)
		if !slices.Equal(given, lengths) || !slices.Equal(room[len(lengths):], []int{77, 78}) {
			t.Fatalf("%v has become %v", brief(lengths), brief(room))
		}
		keptL, keptS := slices.Clone(l), slices.Clone(c.Symbols)
		for i := range given {
			given[i] = 1
		}
		if !slices.Equal(l, keptL) || !slices.Equal(c.Symbols, keptS) {
			t.Fatal("an answer shares memory with the lengths")
		}
		for i := range l {
			l[i] = -5
		}
		if !slices.Equal(c.Symbols, keptS) {
			t.Fatal("two answers share memory")
		}
		for i := range c.Symbols {
			c.Symbols[i] = -5
		}
		taken(t, lengths)
	}
}

// P5.2

func TestReadExample(t *testing.T) {
	c := built(t, []int{3, 3, 3, 3, 3, 2, 4, 4})
	r := &bits.Reader{S: packed("1110" + "00" + "010" + "1111" + "110" + "011" + "1")}
	for i, want := range []int{6, 5, 0, 7, 4, 1} {
		if got := Read(r, c); got != want || r.Bad {
			t.Errorf("symbol %d: %d, Bad %t", i, got, r.Bad)
		}
	}
	if r.At != 19 {
		t.Errorf("%d bits read", r.At)
	}
}

// Each symbol's number is read as it, from every place in a byte on, and no bit behind it.
func TestReadFindsEachSymbol(t *testing.T) {
	for _, lengths := range codes() {
		c := built(t, lengths)
		list := numbers(lengths)
		for at := range 8 {
			w := &bits.Writer{}
			w.Put(0x55, at)
			for s, n := range lengths {
				w.Turn(list[s], n)
			}
			r := &bits.Reader{S: w.Bytes(), At: at}
			end := at
			for s, n := range lengths {
				if n == 0 {
					continue
				}
				end += n
				if got := Read(r, c); got != s || r.Bad || r.At != end {
					t.Fatalf("%v: symbol %d: read %d, At %d (not %d), Bad %t", brief(lengths), s, got, r.At, end, r.Bad)
				}
			}
		}
	}
}

// small is a few codes whose rows of bits are all gone through.
func small() [][]int {
	return [][]int{nil, {0}, {1}, {0, 1}, {1, 1}, {1, 2, 2}, {2, 2, 1}, {3, 3, 3, 3, 3, 2, 4, 4}, {0, 2, 2, 0, 2, 2}, stairs(15), fixed()}
}

// All rows of up to 10 bits, then, as long as they are read, symbol behind symbol.
func TestReadAllRows(t *testing.T) {
	for _, lengths := range small() {
		c, words := built(t, lengths), spelt(lengths)
		for n := range 11 {
			for number := range 1 << n {
				// The bits that end are a string's: whole bytes.
				row := digits(number, n) + strings.Repeat("1", (8-n%8)%8)
				r := &bits.Reader{S: packed(row)}
				for end := 0; ; {
					want, used, short := found(words, row[end:])
					got := Read(r, c)
					end += used
					if got != want || r.Bad != short || !short && r.At != end {
						t.Fatalf("%v, %s: %d, Bad %t, At %d; not %d, %t, %d", brief(lengths), row, got, r.Bad, r.At, want, short, end)
					}
					if short {
						break
					}
				}
			}
		}
	}
}

func TestReadRandomRows(t *testing.T) {
	random := rand.New(rand.NewSource(3))
	for _, lengths := range codes() {
		c, words := built(t, lengths), spelt(lengths)
		for range 20 {
			// Bits are seldom 0 or seldom 1, so that long numbers come, too.
			often := 1 + random.Intn(9)
			var text strings.Builder
			for range 8 * random.Intn(12) {
				text.WriteByte("01"[min(1, random.Intn(10)/often)])
			}
			row := text.String()
			r := &bits.Reader{S: packed(row)}
			for end, short := 0, false; !short; {
				var want, used int
				want, used, short = found(words, row[end:])
				end += used
				if got := Read(r, c); got != want || r.Bad != short || !short && r.At != end {
					t.Fatalf("%v, %s: %d, Bad %t, At %d; not %d, %t, %d", brief(lengths), row, got, r.Bad, r.At, want, short, end)
				}
			}
		}
	}
}

// Bits that end within a symbol: there is none, and the reader is Bad, however often it is asked.
func TestReadTooFew(t *testing.T) {
	deep, nine, none, one := built(t, stairs(15)), built(t, fixed()), built(t, nil), built(t, []int{0, 1})
	cases := []struct {
		what string
		c    api.Code
		s    string
		at   int
	}{
		{"no bits", deep, "", 0},
		{"no bits, fixed", nine, "", 0},
		{"no bits, one symbol", one, "", 0},
		{"no bits, no symbol", none, "", 0},
		{"no bits left", one, "\x00", 8},
		{"8 of 9 bits", nine, "\xff", 0},
		{"1 of 9 bits", nine, "\x00\x80", 15},
		{"8 of 15 bits", deep, "\xff", 0},
		{"14 of 15 bits", deep, "\xff\xff", 2},
		{"14 of none's 15", one, "\xff\xff", 2},
		{"14 of no symbol's 15", none, "\x00\x00", 2},
	}
	for _, c := range cases {
		r := &bits.Reader{S: c.s, At: c.at}
		for range 3 {
			if got := Read(r, c.c); got != -1 || !r.Bad {
				t.Errorf("%s: %d, Bad %t", c.what, got, r.Bad)
			}
		}
	}
}

func TestReadOfABadReader(t *testing.T) {
	for _, lengths := range small() {
		r := &bits.Reader{S: "\x00\x00\x00\x00", Bad: true}
		if got := Read(r, built(t, lengths)); got != -1 || !r.Bad {
			t.Errorf("%v: %d, Bad %t", brief(lengths), got, r.Bad)
		}
	}
}

// 15 bits that are none's: they are read, nothing is Bad, and what stands behind them is read next.
func TestReadNobodysBits(t *testing.T) {
	one, none := built(t, []int{0, 0, 1}), built(t, []int{0, 0, 0})
	for number := range 1 << 15 {
		row := digits(number, 15)
		r := &bits.Reader{S: packed(row)}
		if got := Read(r, none); got != -1 || r.Bad || r.At != 15 {
			t.Fatalf("%s, no symbol: %d, Bad %t, At %d", row, got, r.Bad, r.At)
		}
		r = &bits.Reader{S: packed(row + "0")}
		got := Read(r, one)
		if row[0] == '0' {
			if got != 2 || r.Bad || r.At != 1 {
				t.Fatalf("%s, one symbol: %d, Bad %t, At %d", row, got, r.Bad, r.At)
			}
			continue
		}
		if got != -1 || r.Bad || r.At != 15 {
			t.Fatalf("%s, one symbol: %d, Bad %t, At %d", row, got, r.Bad, r.At)
		}
		if next := Read(r, one); next != 2 || r.Bad || r.At != 16 {
			t.Fatalf("%s, behind 15 bits: %d, Bad %t, At %d", row, next, r.Bad, r.At)
		}
	}
}

func TestReadChangesNothingButTheReader(t *testing.T) {
	for _, lengths := range codes() {
		c := built(t, lengths)
		kept := api.Code{Counts: c.Counts, Symbols: slices.Clone(c.Symbols)}
		s := "\x00\xff\x5a\x81\x33\x77\x18\x24"
		for range 2 {
			var got []int
			r, again := &bits.Reader{S: s}, &bits.Reader{S: s}
			for !r.Bad {
				got = append(got, Read(r, c))
			}
			for _, want := range got {
				if n := Read(again, kept); n != want {
					t.Fatalf("%v: %d, then %d", brief(lengths), want, n)
				}
			}
			if r.S != s || c.Counts != kept.Counts || !slices.Equal(c.Symbols, kept.Symbols) {
				t.Fatalf("%v: what was handed in is changed", brief(lengths))
			}
		}
	}
}

// P5.3

// Of rows in order, one that is another's beginning is the next one's: only neighbours need be held against each other.
func TestNoNumberIsAnothersBeginning(t *testing.T) {
	for _, lengths := range codes() {
		l, e := Codes(lengths)
		if e != api.OK || len(l) != len(lengths) {
			t.Fatalf("%v: %d numbers, %d", brief(lengths), len(l), e)
		}
		var rows []string
		for s, n := range lengths {
			if n == 0 {
				continue
			}
			if l[s] < 0 || l[s] >= 1<<n {
				t.Fatalf("%v: number %d has more than %d bits", brief(lengths), l[s], n)
			}
			rows = append(rows, digits(l[s], n))
		}
		slices.Sort(rows)
		for i := 1; i < len(rows); i++ {
			if strings.HasPrefix(rows[i], rows[i-1]) {
				t.Fatalf("%v: %s is the beginning of %s", brief(lengths), rows[i-1], rows[i])
			}
		}
	}
}

// P1

func TestNothingPanics(t *testing.T) {
	ends := []int{math.MinInt, math.MinInt + 1, -1, 0, 1, 2, 15, 16, 1 << 31, 1 << 32, math.MaxInt - 1, math.MaxInt}
	lists := append(codes(), ends, same(1<<20, 1), same(1<<20, 15), same(1<<20, 0), same(1<<20, math.MaxInt))
	readers := []bits.Reader{{}, {S: "\x00"}, {S: "\xff"}, {S: "\xff\xff\xff"}, {S: "\x00\x00", At: 16}, {S: "\x00\x00", At: 3}, {S: "\xa5\x5a", Bad: true}}
	for _, lengths := range lists {
		want := api.ErrCode
		if makes(lengths) {
			want = api.OK
		}
		l, e := Codes(lengths)
		c, f := Build(lengths)
		if Check(lengths) != want || e != want || f != want || e != api.OK && len(l)+len(c.Symbols) != 0 {
			t.Errorf("%v: not all are told %d", brief(lengths), want)
		}
		for _, r := range readers {
			if s := Read(&r, c); s < -1 || s >= len(lengths) {
				t.Errorf("%v: Read %d", brief(lengths), s)
			}
		}
	}
}

// Read isn't asked of codes that Build hasn't made, but these break nothing either.
func TestReadOfOtherCodes(t *testing.T) {
	ends := []int{math.MinInt, -1, 0, 1, 2, 1 << 15, 1 << 32, math.MaxInt}
	for _, first := range ends {
		for _, second := range ends {
			for _, last := range ends {
				for _, symbols := range [][]int{nil, {7}, {7, 8, 9}} {
					c := api.Code{Counts: [16]int{0: first, 1: first, 2: second, 15: last}, Symbols: symbols}
					for _, s := range []string{"", "\x00", "\xff\xff", "\xfe\xff", "\x00\x00"} {
						if got := Read(&bits.Reader{S: s}, c); got != -1 && !slices.Contains(symbols, got) {
							t.Errorf("%v: %d", c, got)
						}
					}
				}
			}
		}
	}
}
