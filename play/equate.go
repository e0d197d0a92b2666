package play

import (
	"prompt/api"
	"prompt/term"
)

// equation is two terms that are made equal (P11), with all that their variables may stand in.
//
// The arguments of compounds come ahead of all other pairs, so the pairs are the terms of two lists, one behind the other in each, and to open a compound is to drop its name.
type equation struct {
	firsts  term.Term   // the first sides of the pairs
	seconds term.Term   // as many second sides
	body    []term.Term // goals of the clause that is tried
	behind  []term.Term // goals behind the one that is taken
	terms   []term.Term
}

// solve answers met, fails, Cyclic or Big.
func (e *equation) solve() int {
	for len(e.firsts) > 0 && len(e.seconds) > 0 {
		first := e.firsts[0]
		second := e.seconds[0]
		outcome := met
		switch {
		case first == second:
			e.drop(1, 1)
		case first.Kind == term.Variable:
			other := e.seconds[:e.seconds.Lead()]
			e.drop(1, len(other))
			outcome = e.put(first.Value, other)
		case second.Kind == term.Variable:
			other := e.firsts[:e.firsts.Lead()]
			e.drop(len(other), 1)
			outcome = e.put(second.Value, other)
		default:
			outcome = fails
		}
		if outcome != met {
			return outcome
		}
	}
	return met
}

func (e *equation) drop(firsts int, seconds int) {
	e.firsts = e.firsts[firsts:]
	e.seconds = e.seconds[seconds:]
}

// put puts another term in a variable's place everywhere. How great all would be is told first, so that nothing is made that is too big.
func (e *equation) put(which int, other term.Term) int {
	if other.Count(which) > 0 {
		return api.Cyclic
	}
	if e.sizeWith(which, len(other)) > api.MaxSize {
		return api.Big
	}
	e.firsts = e.firsts.Put(which, other)
	e.seconds = e.seconds.Put(which, other)
	e.body = term.PutAll(e.body, which, other)
	e.behind = term.PutAll(e.behind, which, other)
	e.terms = term.PutAll(e.terms, which, other)
	return met
}

// sizeWith tells how many parts there would be with so many in a variable's place.
func (e *equation) sizeWith(which int, parts int) int {
	size := sizeWith(0, []term.Term{e.firsts, e.seconds}, which, parts)
	size = sizeWith(size, e.body, which, parts)
	size = sizeWith(size, e.behind, which, parts)
	return sizeWith(size, e.terms, which, parts)
}

// sizeWith adds to a size that of a list's terms. It stops counting where the size is too great already: there may be far more goals than that.
func sizeWith(size int, terms []term.Term, which int, parts int) int {
	for _, t := range terms {
		if size > api.MaxSize {
			break
		}
		size += len(t) + t.Count(which)*(parts-1)
	}
	return size
}
