// Package term: terms and clauses, and how they are written.
package term

// The kinds of parts.
const (
	Variable = 1
	Number   = 2
	Name     = 3 // a name alone or, with arguments, a compound
	Cut      = 4 // no part of a term: it stands alone, as a goal
)

// Part is one part of a term. Variables are told apart by their Value, since what they were called in a text means nothing outside it.
type Part struct {
	Kind  int
	Name  string // of a name or compound
	Value int    // a number itself; or which variable it is, from 0 on; or the height of a cut
	Args  int    // how many arguments a compound has
}

// Term is a term's parts in the order in which they are written, so that how many parts there are is its length. No term is changed once it is made: lists of terms may share it.
type Term []Part

// Clause is a head and the goals of its body, each a term or a single Cut. Its variables are numbered by where they first stand in it.
type Clause struct {
	Head Term
	Body []Term
}

// Top is a term's first part: its name, if it has one. (No term is without parts; of none at all this is a part of no kind.)
func (t Term) Top() Part {
	if len(t) == 0 {
		return Part{}
	}
	return t[0]
}

// BuiltIn tells whether a term's predicate is one that no clause may have. (The cut, which is built in too, is no term.)
func (t Term) BuiltIn() bool {
	top := t.Top()
	if top.Kind != Name {
		return false
	}
	switch top.Args {
	case 0:
		return top.Name == "true" || top.Name == "fail"
	case 1:
		return top.Name == "not"
	case 2:
		return top.Name == "eq" || top.Name == "less"
	case 3:
		return top.Name == "plus"
	}
	return false
}
