package play

import (
	"prompt/api"
	"prompt/image"
	"prompt/read"
	"prompt/term"
)

// loader reads what one choice has. It refuses what no choice of a suspended question can have.
type loader struct {
	from   *image.Reader
	fresh  int // how many variables have been read
	height int // the greatest that the next cut can have
}

// Load reads a question that was saved beside these clauses. If there is none to be read, the reader is wrong.
func Load(from *image.Reader, clauses []term.Clause) *Question {
	q := &Question{names: loadNames(from)}
	count := from.Number(api.MaxChoices)
	for i := 0; i < count && !from.Wrong(); i++ {
		l := loader{from: from, height: i}
		c := l.choice(len(q.names), clauses)
		q.choices = append(q.choices, c)
	}
	return q
}

func loadNames(from *image.Reader) []string {
	count := from.Number(api.MaxVars)
	var names []string
	for i := 0; i < count; i++ {
		name := from.Word(api.MaxName)
		if !read.IsVariable(name) || !isNamed(name) || isAmong(names, name) {
			from.Refuse()
			return nil
		}
		names = append(names, name)
	}
	return names
}

func isAmong(names []string, name string) bool {
	for _, known := range names {
		if known == name {
			return true
		}
	}
	return false
}

// choice reads a choice of a question with so many named variables. There is always a clause left in it, and always one that was used before.
func (l *loader) choice(names int, clauses []term.Clause) choice {
	goals := l.goals()
	terms := l.terms(names)
	left := l.from.Number(api.MaxClauses)
	if l.from.Wrong() {
		return choice{}
	}
	from := state{goals: goals, terms: terms, fresh: l.fresh}
	matching, _ := from.matching(clauses)
	used := len(matching) - left
	if left < 1 || used < 1 {
		l.from.Refuse()
		return choice{}
	}
	return choice{from: from, clauses: matching[used:]}
}

// goals reads the goals of a choice: at most as many as can be taken in one call, since all of them were met by the call that left the choice.
func (l *loader) goals() []term.Term {
	count := l.from.Number(api.MaxSteps)
	if count == 0 {
		l.from.Refuse()
	}
	var goals []term.Term
	for i := 0; i < count && !l.from.Wrong(); i++ {
		goal := l.goal()
		goals = append(goals, goal)
	}
	return goals
}

// goal reads a goal. A body's goals come ahead of the older ones, so no cut has a greater height than one ahead of it.
func (l *loader) goal() term.Term {
	cut := l.from.Number(l.height + 1)
	if cut > 0 {
		l.height = cut - 1
		return term.Term{term.Part{Kind: term.Cut, Value: l.height}}
	}
	goal := l.term()
	if goal.Top().Kind != term.Name {
		l.from.Refuse()
	}
	return goal
}

// terms reads what the named variables stand for. They have never been too big: nothing but putting terms in the place of variables changes them.
func (l *loader) terms(count int) []term.Term {
	size := 0
	var terms []term.Term
	for i := 0; i < count; i++ {
		t := l.term()
		size += len(t)
		terms = append(terms, t)
	}
	if size > api.MaxSize {
		l.from.Refuse()
	}
	return terms
}

// term reads parts, until no argument is missing. No text is long enough for a term that is too big, and none becomes too big later.
func (l *loader) term() term.Term {
	var t term.Term
	for missing := 1; missing > 0 && !l.from.Wrong(); {
		part := l.part()
		missing += part.Args - 1
		t = append(t, part)
		if len(t) > api.MaxSize {
			l.from.Refuse()
		}
	}
	return t
}

func (l *loader) part() term.Part {
	begins := l.from.Number(aNumber)
	switch begins {
	case aVariable:
		return term.Part{Kind: term.Variable, Value: l.variable()}
	case aNumber:
		value := l.from.Number(2 * api.MaxNumber)
		return term.Part{Kind: term.Number, Value: value - api.MaxNumber}
	}
	name := l.from.Word(api.MaxName)
	if !read.IsName(name) {
		l.from.Refuse()
	}
	return term.Part{Kind: term.Name, Name: name, Args: begins}
}

// variable reads which variable it is: one that stood there before, or the next, since they are numbered by where they first stand.
func (l *loader) variable() int {
	which := l.from.Number(l.fresh)
	if which == l.fresh {
		l.fresh++
	}
	return which
}
