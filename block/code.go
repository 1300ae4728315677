package block

import (
	"stevedore/api"
	"stevedore/bits"
	"stevedore/canon"
	"stevedore/symbol"
)

// code is symbols' codes: how many bits each has, and which ones.
type code struct {
	lengths, numbers []int
}

// coded is the code of lengths that make one.
func coded(lengths []int) code {
	numbers, _ := canon.Codes(lengths)
	return code{lengths, numbers}
}

// write writes a symbol's code.
func (c code) write(w *bits.Writer, sym int) {
	w.Turn(c.numbers[sym], c.lengths[sym])
}

// writeTokens writes tokens, and the symbol behind them.
func writeTokens(w *bits.Writer, l []api.Token, lens, dists code) {
	for _, t := range l {
		if t.Len <= 0 {
			lens.write(w, int(t.Lit))
			continue
		}
		sym, extra, above, _ := symbol.Len(t.Len)
		lens.write(w, sym)
		w.Put(above, extra)
		sym, extra, above, _ = symbol.Dist(t.Dist)
		dists.write(w, sym)
		w.Put(above, extra)
	}
	lens.write(w, stop)
}
