package inflate

import (
	"stevedore/api"
	"stevedore/canon"
	"stevedore/runs"
)

// Bits of what a dynamic block's header tells.
const (
	lensBits   = 5 // of how many lengths the first code has
	distsBits  = 5 // of how many the second one has
	toldBits   = 4 // of how many the code of runs has
	lengthBits = 3 // of each of these
)

// How many lengths there are at the least, and of the two codes at the most: their numbers in the header could tell more.
const (
	leastLens  = 257
	mostLens   = 286
	leastDists = 1
	mostDists  = 30
	leastTold  = 4
)

// The runs that stand for several lengths.
const (
	again   = 16 // the last length
	noughts = 17
	many    = 18 // of noughts, more than the symbol ahead can tell
)

// header is the lengths of both codes of a dynamic block.
func (o *opening) header() ([]int, []int, api.Errno) {
	lens := leastLens + o.take(lensBits)
	dists := leastDists + o.take(distsBits)
	told := leastTold + o.take(toldBits)
	switch {
	case o.from.Bad:
		return nil, nil, api.ErrShort
	case lens > mostLens || dists > mostDists:
		return nil, nil, api.ErrForm
	}
	code, e := o.runCode(told)
	if e != api.OK {
		return nil, nil, e
	}
	// Both in one list, since a run may go from the first on into the second.
	all, e := o.lengths(code, lens+dists)
	if e != api.OK {
		return nil, nil, e
	}
	return all[:lens], all[lens:], api.OK
}

// runCode is the code of runs, of so many lengths that are told.
func (o *opening) runCode(told int) (api.Code, api.Errno) {
	order := runs.Order()
	lengths := make([]int, len(order))
	for _, sym := range order[:told] {
		lengths[sym] = o.take(lengthBits)
	}
	if o.from.Bad {
		return api.Code{}, api.ErrShort
	}
	return canon.Build(lengths)
}

// lengths is the n lengths that the next runs stand for.
func (o *opening) lengths(code api.Code, n int) ([]int, api.Errno) {
	var l []api.Run
	for sum := 0; sum < n; {
		r, e := o.run(code)
		if e != api.OK {
			return nil, e
		}
		// It is told at once: what follows may have other errors.
		if r.Sym == again && len(l) == 0 {
			return nil, api.ErrForm
		}
		l = append(l, r)
		sum += times(r)
	}
	all, is := runs.Unfold(l, n)
	if !is {
		return nil, api.ErrForm
	}
	return all, api.OK
}

// run is the next run.
func (o *opening) run(code api.Code) (api.Run, api.Errno) {
	sym, e := o.symbol(code)
	if e != api.OK {
		return api.Run{}, e
	}
	extra, e := o.number(runs.Bits(sym))
	if e != api.OK {
		return api.Run{}, e
	}
	return api.Run{Sym: sym, Extra: extra}, api.OK
}

// times is for how many lengths a run stands.
func times(r api.Run) int {
	switch r.Sym {
	case again, noughts:
		return 3 + r.Extra
	case many:
		return 11 + r.Extra
	}
	return 1
}
