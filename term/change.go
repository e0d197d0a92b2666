package term

// Lead tells how many parts the first term has, where several stand one behind the other in one list.
func (t Term) Lead() int {
	missing := 1
	for i, part := range t {
		missing += part.Args - 1
		if missing == 0 {
			return i + 1
		}
	}
	return len(t)
}

// Arg is one of a term's arguments, counted from 0 on; where there is none, it is without parts.
func (t Term) Arg(which int) Term {
	if len(t) == 0 {
		return nil
	}
	rest := t[1:]
	for i := 0; i < which; i++ {
		rest = rest[rest.Lead():]
	}
	return rest[:rest.Lead()]
}

// Count tells how often a variable stands in a term.
func (t Term) Count(which int) int {
	count := 0
	for _, part := range t {
		if part.is(which) {
			count++
		}
	}
	return count
}

func (p Part) is(which int) bool { return p.Kind == Variable && p.Value == which }

// Put puts another term in a variable's place.
func (t Term) Put(which int, other Term) Term {
	if t.Count(which) == 0 {
		return t
	}
	var put Term
	for _, part := range t {
		if part.is(which) {
			put = append(put, other...)
		} else {
			put = append(put, part)
		}
	}
	return put
}

// PutAll puts another term in a variable's place in all terms of a list.
func PutAll(terms []Term, which int, other Term) []Term {
	var put []Term
	for _, t := range terms {
		put = append(put, t.Put(which, other))
	}
	return put
}

// Own is a clause with variables of its own, which are numbered from an offset on, and with a height for its cuts.
func (c Clause) Own(offset int, height int) Clause {
	own := Clause{Head: c.Head.own(offset, height)}
	for _, goal := range c.Body {
		own.Body = append(own.Body, goal.own(offset, height))
	}
	return own
}

func (t Term) own(offset int, height int) Term {
	var own Term
	for _, part := range t {
		switch part.Kind {
		case Variable:
			part.Value += offset
		case Cut:
			part.Value = height
		}
		own = append(own, part)
	}
	return own
}

// Past is the number behind the greatest of a clause's variables: how many it has.
func (c Clause) Past() int {
	past := c.Head.past()
	for _, goal := range c.Body {
		past = greater(past, goal.past())
	}
	return past
}

func (t Term) past() int {
	past := 0
	for _, part := range t {
		if part.Kind == Variable {
			past = greater(past, part.Value+1)
		}
	}
	return past
}

func greater(a int, b int) int {
	if a > b {
		return a
	}
	return b
}

// Renumber numbers the variables of all terms of a list by where they first stand in it, and tells how many there are.
func Renumber(terms []Term) ([]Term, int) {
	past := 0
	for _, t := range terms {
		past = greater(past, t.past())
	}
	n := numbering{numbers: make([]int, past)}
	var all []Term
	for _, t := range terms {
		renumbered := n.renumber(t)
		all = append(all, renumbered)
	}
	return all, n.count
}

// numbering holds, for each variable by its old number, the new one, counted from 1 on; 0, as long as it has none.
type numbering struct {
	numbers []int
	count   int
}

// renumber gives back the term itself where nothing changes, so that great terms without variables stay shared.
func (n *numbering) renumber(t Term) Term {
	changes := false
	var renumbered Term
	for _, part := range t {
		if part.Kind == Variable {
			old := part.Value
			part.Value = n.number(old)
			changes = changes || part.Value != old
		}
		renumbered = append(renumbered, part)
	}
	if !changes {
		return t
	}
	return renumbered
}

func (n *numbering) number(old int) int {
	if n.numbers[old] == 0 {
		n.count++
		n.numbers[old] = n.count
	}
	return n.numbers[old] - 1
}
