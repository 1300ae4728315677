package block

import (
	"slices"

	"stevedore/api"
	"stevedore/bits"
	"stevedore/runs"
	"stevedore/weigh"
)

// Bits of what a header tells.
const (
	lensBits   = 5 // of how many lengths the first code has
	distsBits  = 5 // of how many the second one has
	toldBits   = 4 // of how many the code of runs has
	lengthBits = 3 // of each of these
)

const (
	mostRunBits = 7 // of a run's code: as many as its length can tell
	leastTold   = 4
)

// header is what a dynamic block tells of its codes, ahead of its tokens.
type header struct {
	lens, dists int       // how many lengths the two codes have
	told        []int     // the lengths of the code of runs, in their order there
	folded      []api.Run // the two codes' lengths
	lengths     []int     // of the code of runs, by symbol
}

// headed is the header of the codes of these lengths.
func headed(lens, dists []int) header {
	// Both in one list, since a run may go from the first on into the second.
	folded := runs.Fold(slices.Concat(lens, dists))
	order := runs.Order()
	weights := make([]int, len(order))
	for _, r := range folded {
		weights[r.Sym]++
	}
	lengths, _ := weigh.Lengths(weights, mostRunBits)
	told := make([]int, len(order))
	for i, sym := range order {
		told[i] = lengths[sym]
	}
	return header{len(lens), len(dists), trimmed(told, leastTold), folded, lengths}
}

// size is how many bits the header has.
func (h header) size() int {
	n := lensBits + distsBits + toldBits + lengthBits*len(h.told)
	for _, r := range h.folded {
		n += h.lengths[r.Sym] + runs.Bits(r.Sym)
	}
	return n
}

// write writes the header.
func (h header) write(w *bits.Writer) {
	w.Put(h.lens-leastLens, lensBits)
	w.Put(h.dists-leastDists, distsBits)
	w.Put(len(h.told)-leastTold, toldBits)
	for _, n := range h.told {
		w.Put(n, lengthBits)
	}
	c := coded(h.lengths)
	for _, r := range h.folded {
		c.write(w, r.Sym)
		w.Put(r.Extra, runs.Bits(r.Sym))
	}
}
