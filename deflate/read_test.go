package deflate

import (
	"slices"
	"testing"

	"stevedore/api"
)

// A reader of streams for the tests: it tells the blocks one by one, as RFC 1951 has them, and calls nothing of the program's layers.

// part is a block of a stream: where its first bit is, and behind its last one; a stored one has bytes, any other one has tokens.
type part struct {
	last       bool
	kind       int
	begin, end int
	bytes      string
	tokens     []api.Token
}

// size is how many bytes a block comes to.
func (p part) size() int {
	n := len(p.bytes)
	for _, x := range p.tokens {
		n += max(x.Len, 1)
	}
	return n
}

// stream is a stream, and the place of its next bit.
type stream struct {
	t  *testing.T
	s  string
	at int
}

// low is the next n bits' number, the lowest one first.
func (r *stream) low(n int) int {
	r.t.Helper()
	v := 0
	for i := range n {
		if r.at/8 >= len(r.s) {
			r.t.Fatal("a stream that ends too early")
		}
		v |= int(r.s[r.at/8]>>(r.at%8)&1) << i
		r.at++
	}
	return v
}

// up goes on to a whole byte: what lies between is 0.
func (r *stream) up() {
	r.t.Helper()
	for r.at%8 != 0 {
		if r.low(1) != 0 {
			r.t.Fatal("bits ahead of a whole byte that aren't 0")
		}
	}
}

// spelt is a symbol's code: of how many bits, and which number.
type spelt struct{ n, number int }

// book is the symbols by their codes.
func book(lengths []int) map[spelt]int {
	out := map[spelt]int{}
	number := 0
	for n := 1; n <= 15; n++ {
		number *= 2
		for sym, m := range lengths {
			if m == n {
				out[spelt{n, number}] = sym
				number++
			}
		}
	}
	return out
}

// symbol is the next symbol.
func (r *stream) symbol(b map[spelt]int) int {
	r.t.Helper()
	number := 0
	for n := 1; n <= 15; n++ {
		number = 2*number + r.low(1)
		if sym, is := b[spelt{n, number}]; is {
			return sym
		}
	}
	r.t.Fatal("15 bits that are no symbol")
	return 0
}

// row is a symbol's least number, and how many extra bits it has.
type row struct{ least, extra int }

// rows is n symbols from a least number on: share of them have no extra bits, as many again; from there on so many each of 1, 2, and so on.
func rows(n, least, share int) []row {
	var out []row
	for i := range n {
		extra := max(0, i/share-1)
		out = append(out, row{least, extra})
		least += 1 << extra
	}
	return out
}

// lengths is the lengths that a dynamic block tells, of both codes.
func (r *stream) lengths() ([]int, []int) {
	r.t.Helper()
	lens, dists, told := r.low(5)+257, r.low(5)+1, r.low(4)+4
	own := make([]int, 19)
	for _, sym := range []int{16, 17, 18, 0, 8, 7, 9, 6, 10, 5, 11, 4, 12, 3, 13, 2, 14, 1, 15}[:told] {
		own[sym] = r.low(3)
	}
	b := book(own)
	var out []int
	for len(out) < lens+dists {
		switch sym := r.symbol(b); sym {
		case 16:
			out = append(out, slices.Repeat(out[len(out)-1:], 3+r.low(2))...)
		case 17:
			out = append(out, make([]int, 3+r.low(3))...)
		case 18:
			out = append(out, make([]int, 11+r.low(7))...)
		default:
			out = append(out, sym)
		}
	}
	if len(out) != lens+dists {
		r.t.Fatal("a run beyond the lengths")
	}
	return out[:lens], out[lens:]
}

// tokens is the tokens of a block, by its codes' lengths.
func (r *stream) tokens(lens, dists []int) []api.Token {
	r.t.Helper()
	first, second := book(lens), book(dists)
	far, long := rows(30, 1, 2), append(rows(28, 3, 4), row{258, 0})
	var out []api.Token
	for {
		sym := r.symbol(first)
		if sym == 256 {
			return out
		}
		if sym < 256 {
			out = append(out, api.Token{Lit: byte(sym)})
			continue
		}
		x := long[sym-257]
		n := x.least + r.low(x.extra)
		x = far[r.symbol(second)]
		out = append(out, api.Token{Len: n, Dist: x.least + r.low(x.extra)})
	}
}

// block is the next block.
func (r *stream) block() part {
	r.t.Helper()
	p := part{begin: r.at}
	p.last = r.low(1) == 1
	p.kind = r.low(2)
	switch p.kind {
	case 0:
		r.up()
		n := r.low(16)
		if r.low(16) != 65535-n || r.at/8+n > len(r.s) {
			r.t.Fatal("a stored block of a wrong length")
		}
		p.bytes = r.s[r.at/8 : r.at/8+n]
		r.at += 8 * n
	case 1:
		lens := slices.Concat(slices.Repeat([]int{8}, 144), slices.Repeat([]int{9}, 112), slices.Repeat([]int{7}, 24), slices.Repeat([]int{8}, 8))
		p.tokens = r.tokens(lens, slices.Repeat([]int{5}, 32))
	case 2:
		lens, dists := r.lengths()
		p.tokens = r.tokens(lens, dists)
	default:
		r.t.Fatal("a block of kind 3")
	}
	p.end = r.at
	return p
}

// parts is a stream's blocks, up to the one that says that it is the last; nothing is behind that but bits 0 up to a whole byte.
func parts(t *testing.T, s string) []part {
	t.Helper()
	r := &stream{t: t, s: s}
	var out []part
	for {
		p := r.block()
		out = append(out, p)
		if p.last {
			r.up()
			if r.at != 8*len(s) {
				t.Fatalf("%d bytes behind the last block", len(s)-r.at/8)
			}
			return out
		}
	}
}
