package weigh

import (
	"fmt"
	"math"
	"math/rand"
	"slices"
	"testing"

	"stevedore/api"
)

const top = 1 << 40

// bundle is a node as the chapter's words have it: its weight, and the symbols below it.
type bundle struct {
	weight  int
	symbols []int
}

// lightest is where in the list the node of the least weight is, of equals the first one.
func lightest(list []bundle) int {
	at := 0
	for i, b := range list {
		if b.weight < list[at].weight {
			at = i
		}
	}
	return at
}

// counted is the lengths without a limit, by the chapter's words: each time that nodes are put together, there is one more above their symbols.
func counted(weights []int) []int {
	lengths := make([]int, len(weights))
	var list []bundle
	for s, w := range weights {
		if w > 0 {
			list = append(list, bundle{w, []int{s}})
		}
	}
	if len(list) == 1 {
		lengths[list[0].symbols[0]] = 1
	}
	for len(list) > 1 {
		both := bundle{}
		for range 2 {
			at := lightest(list)
			both.weight += list[at].weight
			both.symbols = append(both.symbols, list[at].symbols...)
			list = slices.Delete(list, at, at+1)
		}
		for _, s := range both.symbols {
			lengths[s]++
		}
		list = append(list, both)
	}
	return lengths
}

// longest is the greatest length, 0 of none.
func longest(lengths []int) int {
	n := 0
	for _, l := range lengths {
		n = max(n, l)
	}
	return n
}

// said is the lengths of at most limit bits, by the chapter's words, and how often the weights were halved.
func said(weights []int, limit int) ([]int, int) {
	weights = slices.Clone(weights)
	for rounds := 0; ; rounds++ {
		lengths := counted(weights)
		if longest(lengths) <= limit {
			return lengths, rounds
		}
		for i, w := range weights {
			weights[i] = w/2 + w%2
		}
	}
}

// stand is how many weights are above 0.
func stand(weights []int) int {
	n := 0
	for _, w := range weights {
		if w > 0 {
			n++
		}
	}
	return n
}

// fits says whether so many symbols have codes of at most limit bits.
func fits(n, limit int) bool {
	room := 1
	for range limit {
		room *= 2
	}
	return n <= room
}

// same is n weights w.
func same(n, w int) []int {
	return slices.Repeat([]int{w}, n)
}

// rising is n weights, each step times the one ahead, at most 2^40.
func rising(n, step int) []int {
	out := same(n, 1)
	for i := 1; i < n; i++ {
		out[i] = min(top, out[i-1]*step)
	}
	return out
}

// fibonacci is n weights, each the two ahead together: the least that have as deep a code as there are symbols.
func fibonacci(n int) []int {
	out := same(n, 1)
	for i := 2; i < n; i++ {
		out[i] = out[i-1] + out[i-2]
	}
	return out
}

// drawn is n weights, each 0 or one of as many bits as the draw says.
func drawn(random *rand.Rand, n, wide int) []int {
	out := make([]int, n)
	for i := range out {
		if random.Intn(4) > 0 {
			out[i] = random.Intn(1<<(random.Intn(wide)+1) + 1)
		}
	}
	return out
}

// lists are weights of all kinds that may be.
func lists() [][]int {
	all := [][]int{nil, {}, {0}, {1}, {top}, {0, 0}, {0, 7}, {7, 0}, {1, 1}, {top, 1}, {1, top}, {5, 1, 0, 1, 2}}
	for _, n := range []int{2, 3, 4, 5, 7, 8, 9, 15, 16, 17, 30, 255, 256, 257, 286, 511, 512} {
		all = append(all, make([]int, n), same(n, 1), same(n, 3), same(n, top), rising(n, 2), rising(n, 3))
		backwards := rising(n, 2)
		slices.Reverse(backwards)
		all = append(all, backwards)
	}
	for n := range 58 {
		all = append(all, fibonacci(n))
	}
	random := rand.New(rand.NewSource(4))
	for range 300 {
		all = append(all, drawn(random, random.Intn(40), 40))
	}
	for range 40 {
		all = append(all, drawn(random, random.Intn(513), 1+random.Intn(40)))
	}
	return slices.DeleteFunc(all, func(l []int) bool { return longest(l) > top })
}

// limits are those that a list is held against: all of them, or, where that takes long, the edges.
func limits(weights []int) []int {
	if len(weights) > 100 {
		return []int{1, 7, 8, 9, 10, 15}
	}
	return []int{1, 2, 3, 4, 5, 6, 7, 8, 9, 10, 11, 12, 13, 14, 15}
}

// P4.1

func TestLengthsExamples(t *testing.T) {
	cases := []struct {
		what    string
		weights []int
		limit   int
		want    []int
	}{
		{"the chapter's", []int{5, 1, 0, 1, 2}, 15, []int{1, 3, 0, 3, 2}},
		{"no weights", nil, 15, nil},
		{"no weights, one bit", []int{}, 1, nil},
		{"one that doesn't stand", []int{0}, 1, []int{0}},
		{"none that stands", []int{0, 0, 0}, 15, []int{0, 0, 0}},
		{"one that stands", []int{1}, 15, []int{1}},
		{"one that stands, one bit", []int{7}, 1, []int{1}},
		{"one that stands, between", []int{0, 0, 9, 0}, 1, []int{0, 0, 1, 0}},
		{"one of the greatest weight", []int{top, 0}, 15, []int{1, 0}},
		{"two", []int{1, 1}, 15, []int{1, 1}},
		{"two, one bit", []int{1, top}, 1, []int{1, 1}},
		{"two of many", []int{0, 3, 0, 0, 900, 0}, 1, []int{0, 1, 0, 0, 1, 0}},
		{"three equals: the first two go together", []int{1, 1, 1}, 15, []int{2, 2, 1}},
		{"four equals", []int{4, 4, 4, 4}, 2, []int{2, 2, 2, 2}},
		{"five equals", []int{2, 2, 2, 2, 2}, 15, []int{3, 3, 2, 2, 2}},
		{"a symbol was made ahead of two", []int{1, 1, 1, 2}, 15, []int{2, 2, 2, 2}},
		{"symbols were made ahead of two", []int{2, 1, 1, 2}, 15, []int{2, 2, 2, 2}},
		{"five, of which each is as heavy as those below", []int{1, 1, 2, 4, 8}, 15, []int{4, 4, 3, 2, 1}},
		{"these, of three bits", []int{1, 1, 2, 4, 8}, 3, []int{3, 3, 3, 3, 1}},
		{"halved twice", []int{1, 2, 4, 8, 16}, 3, []int{3, 3, 3, 3, 1}},
		{"none is to be halved", []int{1, 2, 4, 8, 16}, 4, []int{4, 4, 3, 2, 1}},
		{"as many as there may be", []int{1, 1, 2, 4, 0}, 2, []int{2, 2, 2, 2, 0}},
		{"halved once", []int{1, 1, 2, 3, 5}, 3, []int{3, 3, 2, 2, 2}},
		{"3 becomes 2, and 1 stays: 1, 1, 1, 2, 3", []int{1, 1, 1, 3, 6}, 3, []int{3, 3, 2, 2, 2}},
		{"7 becomes 4, and 4 becomes 2: 1, 1, 1, 2, 4", []int{1, 1, 1, 4, 7}, 3, []int{3, 3, 3, 3, 1}},
		{"0 stays when others are halved", []int{0, 1, 0, 1, 1, 3, 6, 0}, 3, []int{0, 3, 0, 3, 2, 2, 2, 0}},
	}
	for _, c := range cases {
		got, e := Lengths(c.weights, c.limit)
		if e != api.OK || !slices.Equal(got, c.want) {
			t.Errorf("%s: Lengths(%v, %d) = %v, %d, not %v", c.what, c.weights, c.limit, got, e, c.want)
		}
	}
}

func TestLengthsAreAsSaid(t *testing.T) {
	for _, weights := range lists() {
		for _, limit := range limits(weights) {
			got, e := Lengths(weights, limit)
			if !fits(stand(weights), limit) {
				if e != api.ErrArg || len(got) != 0 {
					t.Fatalf("%d of %v stand, limit %d: %v, %d", stand(weights), weights, limit, got, e)
				}
				continue
			}
			want, _ := said(weights, limit)
			if e != api.OK || !slices.Equal(got, want) {
				t.Fatalf("Lengths(%v, %d) = %v, %d, not %v", weights, limit, got, e, want)
			}
		}
	}
}

// All lists of up to five small weights: all ways in which they may be equal.
func TestLengthsOfSmallWeights(t *testing.T) {
	for n := range 6 {
		weights := make([]int, n)
		for code := range int(math.Pow(6, float64(n))) {
			for i := range weights {
				weights[i] = code % 6
				code /= 6
			}
			for _, limit := range []int{3, 15} {
				want, _ := said(weights, limit)
				if got, e := Lengths(weights, limit); e != api.OK || !slices.Equal(got, want) {
					t.Fatalf("Lengths(%v, %d) = %v, %d, not %v", weights, limit, got, e, want)
				}
			}
		}
	}
}

// The lists are of such a kind that weights are halved not at all, once and many times.
func TestListsAreHalved(t *testing.T) {
	seen := map[int]int{}
	for _, weights := range lists() {
		if fits(stand(weights), 9) {
			_, rounds := said(weights, 9)
			seen[rounds]++
		}
	}
	for _, rounds := range []int{0, 1, 2, 3, 10, 20, 30} {
		if seen[rounds] == 0 {
			t.Errorf("no list is halved %d times: %v", rounds, seen)
		}
	}
}

func TestLengthsAreWithinTheLimit(t *testing.T) {
	for _, weights := range lists() {
		for _, limit := range limits(weights) {
			got, e := Lengths(weights, limit)
			if e != api.OK {
				continue
			}
			if len(got) != len(weights) {
				t.Fatalf("%d lengths of %d weights", len(got), len(weights))
			}
			for s, n := range got {
				if (n > 0) != (weights[s] > 0) || n < 0 || n > limit {
					t.Fatalf("Lengths(%v, %d): symbol %d has %d", weights, limit, s, n)
				}
			}
		}
	}
}

// As many symbols as 2 to the limit: each has just so many bits, whatever they weigh.
func TestAsManyAsTheLimitHolds(t *testing.T) {
	for limit := 1; limit <= 9; limit++ {
		n := int(math.Pow(2, float64(limit)))
		for _, weights := range [][]int{same(n, 1), same(n, top), rising(n, 2), rising(n, 7)} {
			if got, e := Lengths(weights, limit); e != api.OK || !slices.Equal(got, same(n, limit)) {
				t.Errorf("%d symbols, limit %d: %v, %d", n, limit, got, e)
			}
			if n == 512 {
				continue
			}
			// One more stands, or is there and doesn't stand.
			if got, e := Lengths(append(slices.Clone(weights), 1), limit); e != api.ErrArg || len(got) != 0 {
				t.Errorf("%d symbols and one, limit %d: %v, %d", n, limit, got, e)
			}
			if got, e := Lengths(append(slices.Clone(weights), 0), limit); e != api.OK || !slices.Equal(got, append(same(n, limit), 0)) {
				t.Errorf("%d symbols and one of no weight, limit %d: %v, %d", n, limit, got, e)
			}
			if got, e := Lengths(append(slices.Clone(weights), 1), limit+1); e != api.OK || len(got) != n+1 {
				t.Errorf("%d symbols and one, limit %d: %v, %d", n, limit+1, got, e)
			}
		}
	}
}

func TestLimitsThatMayNotBe(t *testing.T) {
	for _, limit := range []int{math.MinInt, math.MinInt + 1, -64, -15, -1, 0, 16, 17, 31, 32, 63, 64, 65, math.MaxInt - 1, math.MaxInt} {
		for _, weights := range [][]int{nil, {}, {0}, {1}, {1, 2}, same(512, 1)} {
			if got, e := Lengths(weights, limit); e != api.ErrArg || len(got) != 0 {
				t.Errorf("Lengths(%v, %d) = %v, %d", weights, limit, got, e)
			}
		}
	}
	for limit := 1; limit <= 15; limit++ {
		if got, e := Lengths([]int{3, 4}, limit); e != api.OK || !slices.Equal(got, []int{1, 1}) {
			t.Errorf("limit %d: %v, %d", limit, got, e)
		}
	}
}

func TestHowManyWeights(t *testing.T) {
	for _, limit := range []int{9, 15} {
		for _, weights := range [][]int{same(512, 1), make([]int, 512), append(make([]int, 511), 5)} {
			if got, e := Lengths(weights, limit); e != api.OK || len(got) != 512 {
				t.Errorf("512 weights: %d lengths, %d", len(got), e)
			}
		}
	}
	for _, n := range []int{513, 514, 1024, 70000} {
		for _, w := range []int{0, 1, top} {
			if got, e := Lengths(same(n, w), 15); e != api.ErrArg || len(got) != 0 {
				t.Errorf("%d weights %d: %d lengths, %d", n, w, len(got), e)
			}
		}
	}
}

func TestWeightsThatMayNotBe(t *testing.T) {
	for _, w := range []int{math.MinInt, math.MinInt + 1, -top, -2, -1, top + 1, top + 2, 2 * top, math.MaxInt - 1, math.MaxInt} {
		for _, n := range []int{1, 2, 3, 8, 512} {
			for _, at := range []int{0, n / 2, n - 1} {
				weights := same(n, 1)
				weights[at] = w
				if got, e := Lengths(weights, 15); e != api.ErrArg || len(got) != 0 {
					t.Errorf("weight %d at %d of %d: %v, %d", w, at, n, got, e)
				}
			}
		}
	}
	for _, w := range []int{0, 1, top - 1, top} {
		if got, e := Lengths([]int{w, 1, 1}, 2); e != api.OK || len(got) != 3 {
			t.Errorf("weight %d: %v, %d", w, got, e)
		}
	}
}

func TestLengthsChangeAndKeepNothing(t *testing.T) {
	for _, weights := range lists() {
		room := append(slices.Clone(weights), 77, 78, 79)
		given := room[:len(weights)]
		first, _ := Lengths(given, 9)
		if !slices.Equal(given, weights) || !slices.Equal(room[len(weights):], []int{77, 78, 79}) {
			t.Fatalf("%v has become %v", weights, room)
		}
		kept := slices.Clone(first)
		for i := range given {
			given[i] = 1
		}
		if !slices.Equal(first, kept) {
			t.Fatalf("the answer shares memory with the weights")
		}
		for i := range first {
			first[i] = 99
		}
		if second, _ := Lengths(weights, 9); !slices.Equal(second, kept) {
			t.Fatalf("the second answer of %v is %v, the first was %v", weights, second, kept)
		}
	}
}

func TestCostExamples(t *testing.T) {
	cases := []struct {
		weights, lengths []int
		want             int
	}{
		{nil, nil, 0},
		{[]int{}, []int{3}, 0},
		{[]int{3}, nil, 0},
		{[]int{5, 1, 0, 1, 2}, []int{1, 3, 0, 3, 2}, 15},
		{[]int{5, 1}, []int{2, 3, 100}, 13},
		{[]int{5, 1, 100}, []int{2, 3}, 13},
		{[]int{2, 3}, []int{-5, 7}, 11},
		{[]int{-2, -3}, []int{-5, 7}, -11},
		{[]int{math.MaxInt}, []int{2}, -2},
		{[]int{math.MinInt}, []int{-1}, math.MinInt},
		{[]int{math.MinInt}, []int{2}, 0},
		{[]int{math.MaxInt, 1}, []int{1, 1}, math.MinInt},
		{[]int{math.MinInt, 1}, []int{1, -1}, math.MaxInt},
		{[]int{math.MaxInt}, []int{math.MaxInt}, 1},
		{same(512, top), same(512, 15), 512 * 15 * top},
	}
	for _, c := range cases {
		if got := Cost(c.weights, c.lengths); got != c.want {
			t.Errorf("Cost(%v, %v) = %d, not %d", c.weights, c.lengths, got, c.want)
		}
		if got := Cost(c.lengths, c.weights); got != c.want {
			t.Errorf("Cost(%v, %v) = %d, not %d", c.lengths, c.weights, got, c.want)
		}
	}
}

// Cost has no limits of its own, neither of how many there are.
func TestCostOfMany(t *testing.T) {
	random := rand.New(rand.NewSource(5))
	for _, n := range []int{1, 2, 3, 600, 5000} {
		for _, more := range []int{0, 1, 50} {
			a, b, want := make([]int, n+more), make([]int, n), uint64(0)
			for i := range a {
				a[i] = int(random.Uint64())
			}
			for i := range b {
				b[i] = int(random.Uint64())
				want += uint64(a[i]) * uint64(b[i])
			}
			keptA, keptB := slices.Clone(a), slices.Clone(b)
			if Cost(a, b) != int(want) || Cost(b, a) != int(want) {
				t.Errorf("%d and %d numbers: %d and %d, not %d", n+more, n, Cost(a, b), Cost(b, a), int(want))
			}
			if !slices.Equal(a, keptA) || !slices.Equal(b, keptB) {
				t.Error("Cost has changed what it was given")
			}
		}
	}
}

// P4.2

// used is how much of a code of 15 bits at most the lengths take, in parts of 2^15.
func used(lengths []int) int {
	sum := 0
	for _, n := range lengths {
		if n > 0 {
			sum += int(math.Pow(2, float64(15-n)))
		}
	}
	return sum
}

// A code of one symbol is half full: of two and more it is full.
func TestCodesAreFull(t *testing.T) {
	for _, weights := range lists() {
		for _, limit := range limits(weights) {
			lengths, e := Lengths(weights, limit)
			if e != api.OK {
				continue
			}
			want := []int{0, 1 << 14, 1 << 15}[min(2, stand(weights))]
			if got := used(lengths); got != want {
				t.Fatalf("Lengths(%v, %d) = %v take %d, not %d", weights, limit, lengths, got, want)
			}
		}
	}
}

// cheapest is the least cost of all lengths whose code may be (in parts of 2^15, room is left).
func cheapest(weights []int, room int) int {
	if len(weights) == 0 {
		return 0
	}
	least := math.MaxInt
	for n := 1; n <= 8; n++ {
		part := 1 << (15 - n)
		// Each of the others needs some room, too.
		if part+(len(weights)-1)*(1<<7) > room {
			continue
		}
		if rest := cheapest(weights[1:], room-part); rest < math.MaxInt {
			least = min(least, n*weights[0]+rest)
		}
	}
	return least
}

func TestNoneCostsLess(t *testing.T) {
	random := rand.New(rand.NewSource(6))
	for range 400 {
		n := 2 + random.Intn(5)
		weights := make([]int, n)
		for i := range weights {
			weights[i] = 1 + random.Intn(1<<(1+random.Intn(12)))
		}
		lengths, e := Lengths(weights, 15)
		if got, want := Cost(weights, lengths), cheapest(weights, 1<<15); e != api.OK || got != want {
			t.Fatalf("%v: lengths %v cost %d, others %d", weights, lengths, got, want)
		}
	}
}

// packaged is the least cost of lengths of at most 15 bits, by another way than the chapter's: coins of each length are put together, two by two.
func packaged(weights []int) int {
	var coins []int
	for _, w := range weights {
		if w > 0 {
			coins = append(coins, w)
		}
	}
	slices.Sort(coins)
	list := slices.Clone(coins)
	for range 14 {
		next := slices.Clone(coins)
		for i := 0; i+1 < len(list); i += 2 {
			next = append(next, list[i]+list[i+1])
		}
		slices.Sort(next)
		list = next
	}
	sum := 0
	for _, w := range list[:2*len(coins)-2] {
		sum += w
	}
	return sum
}

// Where no length is above the limit at once, none of all that keep to it costs less; where one is, they may.
func TestNoneOfManyCostsLess(t *testing.T) {
	held := 0
	for _, weights := range lists() {
		if stand(weights) < 2 {
			continue
		}
		lengths, e := Lengths(weights, 15)
		if e != api.OK {
			t.Fatalf("%v: %d", weights, e)
		}
		got, want := Cost(weights, lengths), packaged(weights)
		_, rounds := said(weights, 15)
		if got < want || got > want && rounds == 0 {
			t.Fatalf("%v: lengths %v cost %d, others %d", weights, lengths, got, want)
		}
		if rounds == 0 {
			held++
		}
	}
	if held < 50 {
		t.Errorf("only %d lists without a need of the limit", held)
	}
}

// P1

func TestNothingPanics(t *testing.T) {
	defer func() {
		if why := recover(); why != nil {
			t.Errorf("a call panics: %s", fmt.Sprint(why))
		}
	}()
	numbers := []int{math.MinInt, math.MinInt + 1, -1, 0, 1, 2, 3, 1<<31 - 1, 1 << 31, 1 << 32, top - 1, top, top + 1, math.MaxInt - 1, math.MaxInt}
	all := append(lists(), numbers, same(513, 1), same(1<<20, 0), same(1<<20, 1), same(512, math.MaxInt), same(512, math.MinInt))
	for _, n := range numbers {
		all = append(all, []int{n}, []int{n, 1}, []int{1, n}, []int{0, n, n, 0})
	}
	for _, weights := range all {
		for _, limit := range append(limits(weights), append(numbers, 16)...) {
			lengths, e := Lengths(weights, limit)
			if e != api.OK && e != api.ErrArg || e != api.OK && len(lengths) != 0 {
				t.Fatalf("%d weights, limit %d: %d lengths, %d", len(weights), limit, len(lengths), e)
			}
			Cost(weights, lengths)
		}
		for _, other := range [][]int{nil, numbers, weights, {math.MinInt}} {
			Cost(weights, other)
			Cost(other, weights)
		}
	}
}
