package block

import (
	"cmp"
	"slices"
	"strings"

	"stevedore/api"
	"stevedore/bits"
)

// What the chapters say, done plainly: bits are texts of 0 and 1, and nothing of the program's layers is called.

// digit is a number's lowest bit.
func digit(v int) string {
	return string("01"[v&1])
}

// high is the n lowest bits of v, the highest one first.
func high(v, n int) string {
	s := ""
	for range n {
		s = digit(v) + s
		v >>= 1
	}
	return s
}

// low is the n lowest bits of v, the lowest one first.
func low(v, n int) string {
	s := ""
	for range n {
		s += digit(v)
		v >>= 1
	}
	return s
}

// written is the bits that a writer has, as many as it counts.
func written(w *bits.Writer) string {
	var b strings.Builder
	for _, c := range w.Out {
		b.WriteString(low(int(c), 8))
	}
	return b.String()[:w.N]
}

// row is a symbol of lengths or of distances, as RFC 1951 prints it: its least one, and how many extra bits.
type row struct{ least, extra int }

// rows is n of them: as many as share have no extra bits, and as many again; from there on so many each of 1, 2, and so on.
func rows(n, least, share int) []row {
	var out []row
	for i := range n {
		extra := max(0, i/share-1)
		out = append(out, row{least, extra})
		least += 1 << extra
	}
	return out
}

// lenRows is the symbols from 257 on.
func lenRows() []row {
	return append(rows(28, 3, 4), row{258, 0})
}

// distRows is the symbols from 0 on.
func distRows() []row {
	return rows(30, 1, 2)
}

// found is the last row whose least one isn't above n.
func found(rows []row, n int) int {
	for i := len(rows) - 1; i > 0; i-- {
		if rows[i].least <= n {
			return i
		}
	}
	return 0
}

// saidLengths is layer 4's words: the two least nodes are the first two of a list that stays in order.
func saidLengths(weights []int, limit int) []int {
	type tree struct {
		weight  int
		symbols []int
	}
	for {
		lengths := make([]int, len(weights))
		var nodes []tree
		for s, w := range weights {
			if w > 0 {
				nodes = append(nodes, tree{w, []int{s}})
			}
		}
		if len(nodes) == 1 {
			lengths[nodes[0].symbols[0]] = 1
		}
		for len(nodes) > 1 {
			slices.SortStableFunc(nodes, func(a, b tree) int { return cmp.Compare(a.weight, b.weight) })
			both := slices.Concat(nodes[0].symbols, nodes[1].symbols)
			for _, s := range both {
				lengths[s]++
			}
			nodes = append(nodes[2:], tree{nodes[0].weight + nodes[1].weight, both})
		}
		if slices.Max(lengths) <= limit {
			return lengths
		}
		halves := make([]int, len(weights))
		for s, w := range weights {
			halves[s] = (w + 1) / 2
		}
		weights = halves
	}
}

// saidCodes is layer 5's words: each symbol's code as a text of bits.
func saidCodes(lengths []int) []string {
	var symbols []int
	for s, n := range lengths {
		if n > 0 {
			symbols = append(symbols, s)
		}
	}
	slices.SortStableFunc(symbols, func(a, b int) int { return cmp.Compare(lengths[a], lengths[b]) })
	out := make([]string, len(lengths))
	number := 0
	for i, s := range symbols {
		if i > 0 {
			number = (number + 1) << (lengths[s] - lengths[symbols[i-1]])
		}
		out[s] = high(number, lengths[s])
	}
	return out
}

// piece is a run of layer 7.
type piece struct{ sym, extra, bits int }

// saidFold is layer 7's words, row by row.
func saidFold(l []int) []piece {
	var out []piece
	for begin := 0; begin < len(l); {
		n := 1
		for begin+n < len(l) && l[begin+n] == l[begin] {
			n++
		}
		begin += n
		last := l[begin-1]
		if last > 0 {
			out = append(out, piece{last, 0, 0})
			n--
		}
		for n > 0 {
			p, taken := piece{last, 0, 0}, 1
			if last == 0 && n >= 11 {
				taken = min(n, 138)
				p = piece{18, taken - 11, 7}
			} else if last == 0 && n >= 3 {
				taken = n
				p = piece{17, taken - 3, 3}
			} else if last > 0 && n >= 3 {
				taken = min(n, 6)
				p = piece{16, taken - 3, 2}
			}
			out = append(out, p)
			n -= taken
		}
	}
	return out
}

// saidPlain is the fixed codes' lengths.
func saidPlain() ([]int, []int) {
	lens := slices.Concat(slices.Repeat([]int{8}, 144), slices.Repeat([]int{9}, 112), slices.Repeat([]int{7}, 24), slices.Repeat([]int{8}, 8))
	return lens, slices.Repeat([]int{5}, 32)
}

// saidWeights is how often each symbol stands.
func saidWeights(l []api.Token) ([]int, []int) {
	lens, dists := make([]int, 286), make([]int, 30)
	lens[256] = 1
	for _, t := range l {
		if t.Len > 0 {
			lens[257+found(lenRows(), t.Len)]++
			dists[found(distRows(), t.Dist)]++
		} else {
			lens[t.Lit]++
		}
	}
	return lens, dists
}

// saidOwn is the dynamic codes' lengths.
func saidOwn(l []api.Token) ([]int, []int) {
	lens, dists := saidWeights(l)
	lens, dists = saidLengths(lens, 15), saidLengths(dists, 15)
	for len(lens) > 257 && lens[len(lens)-1] == 0 {
		lens = lens[:len(lens)-1]
	}
	for len(dists) > 1 && dists[len(dists)-1] == 0 {
		dists = dists[:len(dists)-1]
	}
	return lens, dists
}

// saidRunLengths is the lengths of the code of runs, by symbol.
func saidRunLengths(lens, dists []int) []int {
	weights := make([]int, 19)
	for _, p := range saidFold(slices.Concat(lens, dists)) {
		weights[p.sym]++
	}
	return saidLengths(weights, 7)
}

// saidTold is those of them that a header has, in the Order.
func saidTold(lens, dists []int) []int {
	lengths := saidRunLengths(lens, dists)
	var told []int
	for _, sym := range []int{16, 17, 18, 0, 8, 7, 9, 6, 10, 5, 11, 4, 12, 3, 13, 2, 14, 1, 15} {
		told = append(told, lengths[sym])
	}
	for len(told) > 4 && told[len(told)-1] == 0 {
		told = told[:len(told)-1]
	}
	return told
}

// saidHeader is a dynamic block's header.
func saidHeader(lens, dists []int) string {
	told := saidTold(lens, dists)
	s := low(len(lens)-257, 5) + low(len(dists)-1, 5) + low(len(told)-4, 4)
	for _, n := range told {
		s += low(n, 3)
	}
	codes := saidCodes(saidRunLengths(lens, dists))
	for _, p := range saidFold(slices.Concat(lens, dists)) {
		s += codes[p.sym] + low(p.extra, p.bits)
	}
	return s
}

// saidTokens is tokens by codes of these lengths, and the end behind them.
func saidTokens(l []api.Token, lens, dists []int) string {
	first, second := saidCodes(lens), saidCodes(dists)
	var b strings.Builder
	for _, t := range l {
		if t.Len <= 0 {
			b.WriteString(first[t.Lit])
			continue
		}
		i := found(lenRows(), t.Len)
		x := lenRows()[i]
		b.WriteString(first[257+i] + low(t.Len-x.least, x.extra))
		i = found(distRows(), t.Dist)
		x = distRows()[i]
		b.WriteString(second[i] + low(t.Dist-x.least, x.extra))
	}
	return b.String() + first[256]
}

// saidStart is a block's first bits.
func saidStart(kind int, last bool) string {
	if last {
		return "1" + low(kind, 2)
	}
	return "0" + low(kind, 2)
}

// saidWrite is a block of tokens.
func saidWrite(l []api.Token, kind int, last bool) string {
	if kind == 2 {
		lens, dists := saidOwn(l)
		return saidStart(2, last) + saidHeader(lens, dists) + saidTokens(l, lens, dists)
	}
	lens, dists := saidPlain()
	return saidStart(1, last) + saidTokens(l, lens, dists)
}

// saidStore is a stored block, behind so many other bits.
func saidStore(s string, last bool, at int) string {
	var b strings.Builder
	b.WriteString(saidStart(0, last))
	for (at+b.Len())%8 != 0 {
		b.WriteString("0")
	}
	b.WriteString(low(len(s), 16) + low(65535-len(s), 16))
	for i := range len(s) {
		b.WriteString(low(int(s[i]), 8))
	}
	return b.String()
}

// saidSize is how many bits there are, counted one by one. Of tokens none is asked that ends beyond what a test has patience for.
func saidSize(l []api.Token, raw, kind, at int) int {
	if kind != 0 {
		return len(saidWrite(l, kind, false))
	}
	if raw < 0 || raw > 65535 {
		return -1
	}
	return len(saidStore(strings.Repeat("x", raw), false, at))
}

// saidChoose is the first kind of the fewest bits.
func saidChoose(l []api.Token, raw, at int) int {
	best := -1
	for kind := range 3 {
		n := saidSize(l, raw, kind, at)
		if n >= 0 && (best < 0 || n < saidSize(l, raw, best, at)) {
			best = kind
		}
	}
	return best
}
