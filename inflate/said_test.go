package inflate

import (
	"slices"
	"strings"

	"stevedore/api"
)

// The chapter's words done plainly, bit by bit, and streams written out as bits: nothing here calls any of the program's layers.

// said is a stream, the place of its next bit, what it has come to, and the kinds of its blocks.
type said struct {
	s     string
	at    int
	out   []byte
	limit int
	kinds []int
}

// wrong is what a stream's first error is told by, from wherever it is met.
type wrong api.Errno

// need goes no further, unless what is asked holds.
func need(holds bool, e api.Errno) {
	if !holds {
		panic(wrong(e))
	}
}

// low is the next n bits' number, the lowest one first.
func (r *said) low(n int) int {
	v := 0
	for i := range n {
		need(r.at < 8*len(r.s), api.ErrShort)
		v |= int(r.s[r.at/8]>>(r.at%8)&1) << i
		r.at++
	}
	return v
}

// spelt is a symbol's number, and of how many bits it is.
type spelt struct{ n, number int }

// book is the symbols by their numbers.
func book(lengths []int) map[spelt]int {
	out := map[spelt]int{}
	number, taken := 0, 0
	for n := 1; n <= 15; n++ {
		number *= 2
		for sym, m := range lengths {
			if m == n {
				out[spelt{n, number}] = sym
				number++
				taken += 1 << (15 - n)
			}
		}
	}
	switch len(out) {
	case 0:
	case 1:
		need(taken == 1<<14, api.ErrCode)
	default:
		need(taken == 1<<15, api.ErrCode)
	}
	return out
}

// symbol is the next symbol.
func (r *said) symbol(b map[spelt]int) int {
	number := 0
	for n := 1; n <= 15; n++ {
		number = 2*number + r.low(1)
		if sym, is := b[spelt{n, number}]; is {
			return sym
		}
	}
	panic(wrong(api.ErrCode))
}

// row is a symbol's least number, and how many extra bits it has.
type row struct{ least, extra int }

// rows is n symbols from a least number on: share of them have no extra bits, as many again; from there on so many each of 1, 2, and so on.
func rows(n, least, share int) []row {
	var out []row
	for i := range n {
		extra := max(0, i/share-1)
		out = append(out, row{least, extra})
		least += 1 << extra
	}
	return out
}

// lenRows is the lengths' symbols, from 257 on.
func lenRows() []row {
	return append(rows(28, 3, 4), row{258, 0})
}

// distRows is the distances' symbols.
func distRows() []row {
	return rows(30, 1, 2)
}

// order is the runs' symbols as a header has their lengths.
func order() []int {
	return []int{16, 17, 18, 0, 8, 7, 9, 6, 10, 5, 11, 4, 12, 3, 13, 2, 14, 1, 15}
}

// lengths is the lengths that a dynamic block tells, of both codes.
func (r *said) lengths() ([]int, []int) {
	lens, dists, told := r.low(5)+257, r.low(5)+1, r.low(4)+4
	need(lens <= 286 && dists <= 30, api.ErrForm)
	own := make([]int, 19)
	for _, sym := range order()[:told] {
		own[sym] = r.low(3)
	}
	b := book(own)
	var out []int
	for len(out) < lens+dists {
		value, times := r.symbol(b), 1
		switch value {
		case 16:
			times = 3 + r.low(2)
			need(len(out) > 0, api.ErrForm)
			value = out[len(out)-1]
		case 17:
			value, times = 0, 3+r.low(3)
		case 18:
			value, times = 0, 11+r.low(7)
		}
		for range times {
			out = append(out, value)
		}
		need(len(out) <= lens+dists, api.ErrForm)
	}
	return out[:lens], out[lens:]
}

// add adds a byte.
func (r *said) add(b byte) {
	r.out = append(r.out, b)
}

// tokens goes through a block's symbols.
func (r *said) tokens(lens, dists []int) {
	first, second := book(lens), book(dists)
	need(lens[256] > 0, api.ErrCode)
	for {
		sym := r.symbol(first)
		if sym == 256 {
			return
		}
		if sym < 256 {
			need(len(r.out) < r.limit, api.ErrLimit)
			r.add(byte(sym))
			continue
		}
		need(sym < 286, api.ErrCode)
		x := lenRows()[sym-257]
		n := x.least + r.low(x.extra)
		sym = r.symbol(second)
		need(sym < 30, api.ErrCode)
		x = distRows()[sym]
		back := x.least + r.low(x.extra)
		need(back <= len(r.out), api.ErrFar)
		need(n <= r.limit-len(r.out), api.ErrLimit)
		for range n {
			r.add(r.out[len(r.out)-back])
		}
	}
}

// stored goes through a stored block's bytes.
func (r *said) stored() {
	for r.at%8 != 0 {
		r.at++
	}
	n, rest := r.low(16), r.low(16)
	need(n == 65535-rest, api.ErrForm)
	need(r.limit >= 0 && n <= r.limit-len(r.out), api.ErrLimit)
	for range n {
		r.add(byte(r.low(8)))
	}
}

// fixedLens and fixedDists are the fixed codes' lengths.
func fixedLens() []int {
	out := make([]int, 288)
	for sym := range out {
		out[sym] = 8
		if sym >= 144 && sym <= 255 {
			out[sym] = 9
		}
		if sym >= 256 && sym <= 279 {
			out[sym] = 7
		}
	}
	return out
}

func fixedDists() []int {
	out := make([]int, 32)
	for sym := range out {
		out[sym] = 5
	}
	return out
}

// blocks goes through blocks, up to the last one.
func (r *said) blocks() {
	for last := false; !last; {
		last = r.low(1) == 1
		kind := r.low(2)
		r.kinds = append(r.kinds, kind)
		switch kind {
		case 0:
			r.stored()
		case 1:
			r.tokens(fixedLens(), fixedDists())
		case 2:
			r.tokens(r.lengths())
		default:
			need(false, api.ErrForm)
		}
	}
}

// saidOpen is the bytes of the stream that s begins with, how many bytes it has, and the kinds of the blocks that are begun; or the first error.
func saidOpen(s string, limit int) (text string, used int, e api.Errno, kinds []int) {
	r := &said{s: s, limit: limit}
	defer func() {
		switch x := recover().(type) {
		case nil:
		case wrong:
			text, used, e, kinds = "", 0, api.Errno(x), r.kinds
		default:
			panic(x)
		}
	}()
	r.blocks()
	return string(r.out), (r.at + 7) / 8, api.OK, r.kinds
}

// Bits are told as a text of 0 and 1, with room between for those who read them.

// low is n bits of a number, the lowest one first.
func low(v, n int) string {
	b := make([]byte, n)
	for i := range b {
		b[i] = byte('0' + v>>i&1)
	}
	return string(b)
}

// high is n bits of a number, the highest one first.
func high(v, n int) string {
	b := []byte(low(v, n))
	slices.Reverse(b)
	return string(b)
}

// tight is bits without the room between.
func tight(told string) string {
	return strings.ReplaceAll(told, " ", "")
}

// bytesOf is the bytes of bits, the last one filled with 0.
func bytesOf(told string) string {
	told = tight(told)
	out := make([]byte, (len(told)+7)/8)
	for i, c := range told {
		out[i/8] |= byte(c-'0') << (i % 8)
	}
	return string(out)
}

// spell is each symbol's bits.
func spell(lengths []int) map[int]string {
	out := map[int]string{}
	for x, sym := range book(lengths) {
		out[sym] = high(x.number, x.n)
	}
	return out
}

// placed is n lengths, all 0 but those that are told.
func placed(n int, told map[int]int) []int {
	out := make([]int, n)
	for sym, m := range told {
		out[sym] = m
	}
	return out
}

// begin is what a block begins with.
func begin(last bool, kind int) string {
	if last {
		return "1" + low(kind, 2)
	}
	return "0" + low(kind, 2)
}

// ownRuns is the lengths of a code of runs that has all symbols.
func ownRuns() []int {
	out := make([]int, 19)
	for sym := range out {
		out[sym] = 4
		if sym > 12 {
			out[sym] = 5
		}
	}
	return out
}

// runBits is the bits of runs by that code.
func runBits(l ...api.Run) string {
	words := spell(ownRuns())
	extra := map[int]int{16: 2, 17: 3, 18: 7}
	out := ""
	for _, r := range l {
		out += words[r.Sym] + low(r.Extra, extra[r.Sym])
	}
	return out
}

// each is lengths as runs that stand for one each.
func each(l []int) []api.Run {
	var out []api.Run
	for _, n := range l {
		out = append(out, api.Run{Sym: n})
	}
	return out
}

// counts is the three numbers that a header begins with.
func counts(lens, dists, told int) string {
	return low(lens-257, 5) + low(dists-1, 5) + low(told-4, 4)
}

// threes is the lengths of a code of runs, in their order, as a header has them.
func threes(own []int, told int) string {
	out := ""
	for _, sym := range order()[:told] {
		out += low(own[sym], 3)
	}
	return out
}

// header is a dynamic block's beginning and header, with the code of runs that has all symbols.
func header(last bool, lens, dists int, l ...api.Run) string {
	return begin(last, 2) + counts(lens, dists, 19) + threes(ownRuns(), 19) + runBits(l...)
}

// dynamicBlock is a dynamic block's beginning and header, each length told alone.
func dynamicBlock(last bool, lens, dists []int) string {
	return header(last, len(lens), len(dists), append(each(lens), each(dists)...)...)
}

// storedBlock is a stored block behind so many bits.
func storedBlock(last bool, at int, s string) string {
	out := begin(last, 0)
	for (at+len(out))%8 != 0 {
		out += "0"
	}
	return out + low(len(s), 16) + low(65535-len(s), 16) + bitsOf(s)
}

// bitsOf is the bits of bytes.
func bitsOf(s string) string {
	var b strings.Builder
	for i := range len(s) {
		b.WriteString(low(int(s[i]), 8))
	}
	return b.String()
}

// fixedWords is the bits of bytes by the fixed code.
func fixedWords(s string) string {
	words := spell(fixedLens())
	out := ""
	for i := range len(s) {
		out += words[int(s[i])]
	}
	return out
}

// matchBits is the bits of a match: its length's symbol, its distance's, and their extra numbers.
func matchBits(lens, dists map[int]string, n, back int) string {
	return lens[257+symbolOf(lenRows(), n)] + above(lenRows(), n) + dists[symbolOf(distRows(), back)] + above(distRows(), back)
}

// symbolOf is the last row whose least number isn't above n.
func symbolOf(l []row, n int) int {
	sym := 0
	for i, x := range l {
		if x.least <= n {
			sym = i
		}
	}
	return sym
}

// above is the extra bits of a number.
func above(l []row, n int) string {
	x := l[symbolOf(l, n)]
	return low(n-x.least, x.extra)
}

// fixedMatch is a match's bits by the fixed codes.
func fixedMatch(n, back int) string {
	return matchBits(spell(fixedLens()), spell(fixedDists()), n, back)
}

// fixedEnd is the bits of 256 by the fixed code.
const fixedEnd = "0000000"

// nothing is blocks that come to no bytes, and have just so many bits more than a whole number of bytes.
func nothing(k int) string {
	out := ""
	if k%2 == 1 {
		out = header(false, 257, 1, api.Run{Sym: 18, Extra: 127}, api.Run{Sym: 18, Extra: 107}, api.Run{Sym: 1}, api.Run{Sym: 0}) + "0"
	}
	for len(out)%8 != k {
		out += begin(false, 1) + fixedEnd
	}
	return out
}

// exact is the bytes of bits behind blocks of nothing, so that the last bit ends a byte.
func exact(told string) string {
	told = tight(told)
	return bytesOf(nothing((8-len(told)%8)%8) + told)
}
