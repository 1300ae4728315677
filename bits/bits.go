// Package bits writes and reads bits, the lowest of a byte first: layer 1, see shared/doc/01-bits.md.
package bits

// most is how many bits one call takes at the most: their number fits in an int of 32 bits, too.
const most = 30

// Writer gathers bits into bytes. It is made as &Writer{}.
type Writer struct {
	Out []byte // what was written, the last byte filled with 0
	N   int    // how many bits
}

// Bit writes b's lowest bit.
func (w *Writer) Bit(b int) {
	place := w.N & 7
	// A writer that wasn't made as said may have a place in a byte that it hasn't.
	if place == 0 || len(w.Out) == 0 {
		w.Out = append(w.Out, 0)
	}
	w.Out[len(w.Out)-1] |= byte(b&1) << place
	w.N++
}

// Put writes the n lowest bits of v, the lowest one first.
func (w *Writer) Put(v, n int) {
	for i := range taken(n) {
		w.Bit(v >> i)
	}
}

// Turn writes the n lowest bits of v, the highest one first.
func (w *Writer) Turn(v, n int) {
	for i := taken(n) - 1; i >= 0; i-- {
		w.Bit(v >> i)
	}
}

// Align fills the last byte with bits 0.
func (w *Writer) Align() {
	// The bits behind N are 0 already: only their count is missing.
	w.N = whole(w.N)
}

// Text writes s's bytes from a whole byte on.
func (w *Writer) Text(s string) {
	w.Align()
	w.Out = append(w.Out, s...)
	w.N += 8 * len(s)
}

// Bytes tells all bytes so far.
func (w *Writer) Bytes() string {
	return string(w.Out)
}

// Reader takes bits from a string. It is made as &Reader{S: s}, or with an At within S.
type Reader struct {
	S   string // what is read
	At  int    // bits that were
	Bad bool   // did it go wrong?
}

// Bit reads a bit: 0, and Bad is set, if there is none or the reader went wrong before.
func (r *Reader) Bit() int {
	// At is divided, not S's length multiplied, so that no length is too great.
	from := r.At >> 3
	if r.Bad || from < 0 || from >= len(r.S) {
		r.Bad = true
		return 0
	}
	b := r.S[from] >> (r.At & 7) & 1
	r.At++
	return int(b)
}

// Bits reads the number of the next n bits, the lowest one first: 0, if that goes wrong.
func (r *Reader) Bits(n int) int {
	v := 0
	for i := range taken(n) {
		v |= r.Bit() << i
	}
	// What was read ahead of the end is no number of n bits.
	if r.Bad {
		return 0
	}
	return v
}

// Align passes the bits up to a whole byte.
func (r *Reader) Align() {
	r.At = whole(r.At)
}

// Text reads n bytes from a whole byte on: none, and Bad is set, if that goes wrong.
func (r *Reader) Text(n int) string {
	r.Align()
	from := r.At >> 3
	// n is held against what is left, since from+n may be more than an int holds.
	if r.Bad || n < 0 || from < 0 || n > len(r.S)-from {
		r.Bad = true
		return ""
	}
	r.At += 8 * n
	return r.S[from : from+n]
}

// Used tells how many bytes were read, in whole or in part.
func (r *Reader) Used() int {
	return whole(r.At) >> 3
}

// taken is how many bits a call with n takes.
func taken(n int) int {
	if n < 0 {
		return 0
	}
	if n > most {
		return most
	}
	return n
}

// whole is the number of bits n, up to a whole byte.
func whole(n int) int {
	return (n + 7) &^ 7
}
