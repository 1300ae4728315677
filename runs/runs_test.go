package runs

import (
	"math"
	"math/rand"
	"slices"
	"testing"
	"time"

	"stevedore/api"
)

// some is n times a length.
func some(length, n int) []int {
	return slices.Repeat([]int{length}, n)
}

// joined is lists one behind the other.
func joined(lists ...[]int) []int {
	return slices.Concat(lists...)
}

// alone is a run of each length, once.
func alone(lengths ...int) []api.Run {
	var out []api.Run
	for _, n := range lengths {
		out = append(out, api.Run{Sym: n})
	}
	return out
}

// saidFold is the chapter's words, done row by row: a row of one length is told whole, ahead of the next one.
func saidFold(l []int) []api.Run {
	for _, n := range l {
		if n < 0 || n > 15 {
			return nil
		}
	}
	var out []api.Run
	for begin := 0; begin < len(l); {
		end := begin
		for end < len(l) && l[end] == l[begin] {
			end++
		}
		if l[begin] == 0 {
			out = append(out, saidNoughts(end-begin)...)
		} else {
			out = append(out, saidSame(l[begin], end-begin)...)
		}
		begin = end
	}
	return out
}

func saidNoughts(n int) []api.Run {
	var out []api.Run
	for n > 138 {
		out = append(out, api.Run{Sym: 18, Extra: 127})
		n -= 138
	}
	if n >= 11 {
		return append(out, api.Run{Sym: 18, Extra: n - 11})
	}
	if n >= 3 {
		return append(out, api.Run{Sym: 17, Extra: n - 3})
	}
	return append(out, alone(some(0, n)...)...)
}

func saidSame(length, n int) []api.Run {
	out := alone(length)
	n--
	for n > 6 {
		out = append(out, api.Run{Sym: 16, Extra: 3})
		n -= 6
	}
	if n >= 3 {
		return append(out, api.Run{Sym: 16, Extra: n - 3})
	}
	return append(out, alone(some(length, n)...)...)
}

// saidUnfold is the chapter's words, run by run, with all numbers written out.
func saidUnfold(runs []api.Run, n int) ([]int, bool) {
	var out []int
	for _, r := range runs {
		if r.Sym >= 0 && r.Sym <= 15 && r.Extra == 0 {
			out = append(out, r.Sym)
		} else if r.Sym == 16 && r.Extra >= 0 && r.Extra <= 3 && len(out) > 0 {
			out = append(out, some(out[len(out)-1], 3+r.Extra)...)
		} else if r.Sym == 17 && r.Extra >= 0 && r.Extra <= 7 {
			out = append(out, some(0, 3+r.Extra)...)
		} else if r.Sym == 18 && r.Extra >= 0 && r.Extra <= 127 {
			out = append(out, some(0, 11+r.Extra)...)
		} else {
			return nil, false
		}
	}
	if len(out) != n {
		return nil, false
	}
	return out, true
}

// odd is numbers from all over int, most of them nobody's.
func odd() []int {
	out := []int{math.MinInt, math.MinInt + 1, math.MaxInt - 1, math.MaxInt}
	for n := range 63 {
		for _, by := range []int{0, 1, 2, 3, 7, 8, 15, 16, 17, 18, 127, 128} {
			out = append(out, 1<<n+by, 1<<n-by, -1<<n+by, -1<<n-by)
		}
	}
	return out
}

// randomLengths is lengths in rows, many of them long.
func randomLengths(random *rand.Rand, rows int) []int {
	var out []int
	for range rows {
		length := random.Intn(4) * random.Intn(6)
		switch random.Intn(4) {
		case 0:
			out = append(out, some(length, random.Intn(300))...)
		case 1:
			out = append(out, some(0, random.Intn(300))...)
		default:
			out = append(out, some(length, random.Intn(15))...)
		}
	}
	return out
}

// P7.1: Bits and Order.

func TestBits(t *testing.T) {
	for _, sym := range append(odd(), 0, 1, 14, 15, 16, 17, 18, 19, 20, -1, -16, -17, -18) {
		asked := 0
		if sym == 16 {
			asked = 2
		} else if sym == 17 {
			asked = 3
		} else if sym == 18 {
			asked = 7
		}
		if n := Bits(sym); n != asked {
			t.Errorf("bits of %d: %d, asked for %d", sym, n, asked)
		}
	}
}

func TestOrder(t *testing.T) {
	asked := [19]int{16, 17, 18, 0, 8, 7, 9, 6, 10, 5, 11, 4, 12, 3, 13, 2, 14, 1, 15}
	first := Order()
	if first != asked {
		t.Fatal(first)
	}
	first[0] = 99
	if Order() != asked {
		t.Error("an answer that was changed is told again")
	}
}

// P7.1: Fold.

func holdFold(t *testing.T, l []int, asked []api.Run) {
	t.Helper()
	if out := Fold(l); !slices.Equal(out, asked) {
		t.Fatalf("fold of %v: %v, asked for %v", l, out, asked)
	}
}

func TestFoldExamples(t *testing.T) {
	holdFold(t, nil, nil)
	holdFold(t, []int{}, nil)
	holdFold(t, []int{3, 3, 3, 3, 0, 0, 0, 5}, []api.Run{{Sym: 3}, {Sym: 16}, {Sym: 17}, {Sym: 5}})
	for n := range 16 {
		holdFold(t, []int{n}, alone(n))
	}
	holdFold(t, []int{15, 0, 15, 0}, alone(15, 0, 15, 0))
}

func TestFoldRowsOfTheSame(t *testing.T) {
	six, three, four := api.Run{Sym: 16, Extra: 3}, api.Run{Sym: 16}, api.Run{Sym: 16, Extra: 1}
	five := api.Run{Sym: 16, Extra: 2}
	for length := 1; length <= 15; length++ {
		one := api.Run{Sym: length}
		for n, asked := range map[int][]api.Run{
			1:  {one},
			2:  {one, one},
			3:  {one, one, one},
			4:  {one, three},
			5:  {one, four},
			6:  {one, five},
			7:  {one, six},
			8:  {one, six, one},
			9:  {one, six, one, one},
			10: {one, six, three},
			13: {one, six, six},
			14: {one, six, six, one},
			20: {one, six, six, six, one},
			21: {one, six, six, six, one, one},
			22: {one, six, six, six, three},
		} {
			holdFold(t, some(length, n), asked)
			// The same behind others, and ahead of others: the row neither begins nor ends the lengths.
			other := length%15 + 1
			holdFold(t, joined([]int{0}, some(length, n), []int{other}), slices.Concat(alone(0), asked, alone(other)))
			holdFold(t, joined([]int{other}, some(length, n), []int{0}), slices.Concat(alone(other), asked, alone(0)))
		}
	}
}

func TestFoldRowsOfNoughts(t *testing.T) {
	nought, most := api.Run{}, api.Run{Sym: 18, Extra: 127}
	for n, asked := range map[int][]api.Run{
		1:   {nought},
		2:   {nought, nought},
		3:   {{Sym: 17}},
		4:   {{Sym: 17, Extra: 1}},
		9:   {{Sym: 17, Extra: 6}},
		10:  {{Sym: 17, Extra: 7}},
		11:  {{Sym: 18}},
		12:  {{Sym: 18, Extra: 1}},
		137: {{Sym: 18, Extra: 126}},
		138: {most},
		139: {most, nought},
		140: {most, nought, nought},
		141: {most, {Sym: 17}},
		148: {most, {Sym: 17, Extra: 7}},
		149: {most, {Sym: 18}},
		276: {most, most},
		277: {most, most, nought},
		286: {most, most, {Sym: 17, Extra: 7}},
		287: {most, most, {Sym: 18}},
	} {
		holdFold(t, some(0, n), asked)
		holdFold(t, joined([]int{7}, some(0, n), []int{7, 7}), slices.Concat(alone(7), asked, alone(7, 7)))
	}
}

func TestFoldOfNoLengths(t *testing.T) {
	for _, bad := range append(odd(), -1, -2, 16, 17, 18, 19) {
		if bad >= 0 && bad <= 15 {
			continue
		}
		for _, l := range [][]int{{bad}, {bad, 3, 3, 3, 3}, {3, 3, 3, 3, bad}, {0, 0, 0, bad, 0, 0, 0}, some(bad, 20)} {
			if out := Fold(l); len(out) != 0 {
				t.Fatalf("fold of %v: %v", l, out)
			}
		}
	}
}

// All rows of one length and of another, up to far beyond what one run tells.
func TestFoldIsTheWords(t *testing.T) {
	for _, pair := range [][2]int{{0, 1}, {1, 0}, {15, 14}} {
		for a := range 300 {
			for _, b := range []int{0, 1, 2, 3, 4, 6, 7, 8, 10, 11, 13, 138, 139, 141} {
				l := joined(some(pair[0], a), some(pair[1], b), some(pair[0], a%9))
				holdFold(t, l, saidFold(l))
			}
		}
	}
	random := rand.New(rand.NewSource(7))
	for range 20000 {
		l := randomLengths(random, random.Intn(8))
		holdFold(t, l, saidFold(l))
	}
}

// All short lists of three lengths.
func TestFoldOfAllShortLists(t *testing.T) {
	for n := range 10 {
		l := make([]int, n)
		for more := true; more; {
			holdFold(t, l, saidFold(l))
			more = false
			for i := range l {
				l[i] = (l[i] + 1) % 3
				if l[i] > 0 {
					more = true
					break
				}
			}
		}
	}
}

// P7.1: Unfold.

func holdUnfold(t *testing.T, runs []api.Run, n int, asked []int, good bool) {
	t.Helper()
	out, is := Unfold(runs, n)
	if is != good || !slices.Equal(out, asked) {
		t.Fatalf("unfold of %v, %d: %v, %v; asked for %v, %v", runs, n, out, is, asked, good)
	}
}

// just holds that runs are so many lengths as asked, and not one fewer or one more.
func just(t *testing.T, runs []api.Run, asked []int) {
	t.Helper()
	holdUnfold(t, runs, len(asked), asked, true)
	for _, n := range []int{len(asked) - 1, len(asked) + 1, 0, -1, -len(asked), 2 * len(asked), math.MaxInt, math.MinInt, math.MaxInt32, math.MaxUint32 + 1 + len(asked)} {
		if n != len(asked) {
			holdUnfold(t, runs, n, nil, false)
		}
	}
}

func TestUnfoldExamples(t *testing.T) {
	just(t, nil, nil)
	just(t, []api.Run{}, nil)
	just(t, []api.Run{{Sym: 3}, {Sym: 16}, {Sym: 17}, {Sym: 5}}, []int{3, 3, 3, 3, 0, 0, 0, 5})
	for n := range 16 {
		just(t, alone(n), []int{n})
		just(t, []api.Run{{Sym: n}, {Sym: 16, Extra: 2}}, some(n, 6))
	}
}

// Runs that Fold wouldn't tell are runs too: a 16 behind noughts, or behind another 16, or a 17 where an 18 would do.
func TestUnfoldWhatFoldDoesNotTell(t *testing.T) {
	just(t, []api.Run{{Sym: 17, Extra: 1}, {Sym: 16, Extra: 2}}, some(0, 9))
	just(t, []api.Run{{Sym: 9}, {Sym: 18}, {Sym: 16}, {Sym: 9}}, joined([]int{9}, some(0, 14), []int{9}))
	just(t, []api.Run{{Sym: 4}, {Sym: 16}, {Sym: 16}, {Sym: 16, Extra: 3}}, some(4, 13))
	just(t, []api.Run{{Sym: 4}, {Sym: 5}, {Sym: 16}}, []int{4, 5, 5, 5, 5})
	just(t, []api.Run{{Sym: 17}, {Sym: 17, Extra: 7}, {Sym: 0}, {Sym: 16}}, some(0, 17))
}

func TestUnfoldExtras(t *testing.T) {
	for extra := range 4 {
		just(t, []api.Run{{Sym: 6}, {Sym: 16, Extra: extra}, {Sym: 2}}, joined(some(6, 4+extra), []int{2}))
	}
	for extra := range 8 {
		just(t, []api.Run{{Sym: 6}, {Sym: 17, Extra: extra}, {Sym: 2}}, joined([]int{6}, some(0, 3+extra), []int{2}))
		just(t, []api.Run{{Sym: 17, Extra: extra}}, some(0, 3+extra))
	}
	for extra := range 128 {
		just(t, []api.Run{{Sym: 6}, {Sym: 18, Extra: extra}, {Sym: 2}}, joined([]int{6}, some(0, 11+extra), []int{2}))
		just(t, []api.Run{{Sym: 18, Extra: extra}}, some(0, 11+extra))
	}
}

// refused holds that a run is none, whatever is asked for and wherever it stands.
func refused(t *testing.T, r api.Run) {
	t.Helper()
	for _, runs := range [][]api.Run{{r}, {{Sym: 1}, r}, {r, {Sym: 1}}, {{Sym: 1}, {Sym: 16}, r, {Sym: 18}}} {
		for n := range 20 {
			holdUnfold(t, runs, n, nil, false)
		}
		// What would come out, if the numbers were taken as they are.
		sum := 0
		for _, x := range runs {
			sum += times(x)
		}
		for _, n := range []int{sum, sum - 1, sum + 1, -1, math.MinInt, math.MaxInt} {
			holdUnfold(t, runs, n, nil, false)
		}
	}
}

func TestUnfoldOfNoSymbol(t *testing.T) {
	for _, sym := range append(odd(), -1, -2, -16, -17, -18, 19, 20, 32, 256+16, 256+3) {
		if sym >= 0 && sym <= 18 {
			continue
		}
		for _, extra := range []int{0, 1, 3} {
			refused(t, api.Run{Sym: sym, Extra: extra})
		}
	}
}

func TestUnfoldOfNoExtra(t *testing.T) {
	most := func(sym int) int {
		switch sym {
		case 16:
			return 3
		case 17:
			return 7
		case 18:
			return 127
		}
		return 0
	}
	for sym := range 19 {
		for _, extra := range append(odd(), -1, -2, -3, -11, most(sym)+1, most(sym)+2, 1, 2, 4, 8, 128) {
			if extra < 0 || extra > most(sym) {
				refused(t, api.Run{Sym: sym, Extra: extra})
			}
		}
	}
}

func TestUnfoldWithNoneAhead(t *testing.T) {
	for extra := range 4 {
		for n := range 12 {
			holdUnfold(t, []api.Run{{Sym: 16, Extra: extra}}, n, nil, false)
			holdUnfold(t, []api.Run{{Sym: 16, Extra: extra}, {Sym: 3}}, n, nil, false)
			holdUnfold(t, []api.Run{{Sym: 16, Extra: extra}, {Sym: 16}}, n, nil, false)
		}
	}
}

func TestUnfoldIsTheWords(t *testing.T) {
	random := rand.New(rand.NewSource(8))
	good := 0
	for range 50000 {
		runs := make([]api.Run, random.Intn(7))
		for i := range runs {
			runs[i].Sym = random.Intn(19)
			if runs[i].Sym > 15 && random.Intn(8) > 0 {
				runs[i].Extra = random.Intn(1 << [3]int{2, 3, 7}[runs[i].Sym-16])
			}
			if random.Intn(40) == 0 {
				runs[i].Extra = random.Intn(260) - 130
			}
			if random.Intn(40) == 0 {
				runs[i].Sym = random.Intn(60) - 30
			}
		}
		n := 0
		for _, r := range runs {
			n += times(r)
		}
		if random.Intn(10) == 0 {
			n += random.Intn(3) - 1
		}
		asked, is := saidUnfold(runs, n)
		if is {
			good++
		}
		holdUnfold(t, runs, n, asked, is)
	}
	if good < 10000 {
		t.Error("too few good ones:", good)
	}
}

// P7.2

func TestFoldedIsUnfolded(t *testing.T) {
	hold := func(l []int) {
		t.Helper()
		just(t, Fold(l), l)
	}
	for length := range 16 {
		for n := range 320 {
			hold(some(length, n))
			hold(joined([]int{15 - length}, some(length, n)))
		}
	}
	random := rand.New(rand.NewSource(9))
	for range 20000 {
		hold(randomLengths(random, random.Intn(8)))
	}
	for range 5000 {
		l := make([]int, random.Intn(320))
		for i := range l {
			l[i] = random.Intn(16)
		}
		hold(l)
	}
}

// P1, and the rules.

func TestNothingIsChangedOrKept(t *testing.T) {
	room := joined([]int{3, 3, 3, 3, 0, 0, 0, 5}, some(77, 20))
	lengths := room[:8]
	runs := Fold(lengths)
	if !slices.Equal(room, joined([]int{3, 3, 3, 3, 0, 0, 0, 5}, some(77, 20))) {
		t.Fatal("fold changes what it is given:", room)
	}
	lengths[0] = 9
	if runs[0].Sym != 3 {
		t.Fatal("fold keeps what it is given")
	}
	held := append(slices.Clone(runs), alone(some(77, 20)...)...)
	a, _ := Unfold(held[:4], 8)
	if !slices.Equal(held, append(slices.Clone(runs), alone(some(77, 20)...)...)) {
		t.Fatal("unfold changes what it is given:", held)
	}
	b, _ := Unfold(held[:4], 8)
	a[0] = 9
	if b[0] != 3 || held[0].Sym != 3 {
		t.Error("two answers share memory")
	}
}

// A call of very long lists ends soon: a row isn't gone through anew for each of its runs.
func TestLongListsEnd(t *testing.T) {
	begin := time.Now()
	for _, length := range []int{0, 1, 15} {
		l := some(length, 3000000)
		runs := Fold(l)
		if !slices.Equal(runs, saidFold(l)) {
			t.Fatal("another fold of a long row of", length)
		}
		out, is := Unfold(runs, len(l))
		if !is || !slices.Equal(out, l) {
			t.Fatal("another unfolding of a long row of", length)
		}
	}
	if spent := time.Since(begin); spent > time.Minute {
		t.Error("took", spent)
	}
}

func TestNothingPanics(t *testing.T) {
	numbers := append(odd(), -1, 0, 1, 16, 17, 18, 19)
	for _, a := range numbers {
		Bits(a)
		Fold([]int{a})
		Fold([]int{0, a, a, a})
		Unfold(nil, a)
		Unfold([]api.Run{{Sym: 18, Extra: 127}, {Sym: 16, Extra: 3}}, a)
		for _, b := range numbers {
			Fold([]int{a, b})
			Unfold([]api.Run{{Sym: a, Extra: b}}, 1)
			Unfold([]api.Run{{Sym: 1}, {Sym: a, Extra: b}, {Sym: b, Extra: a}}, a)
		}
	}
}
