// Package play: a question, played till there is a reply.
package play

import (
	"prompt/api"
	"prompt/term"
)

// What comes of a goal: met, fails, or the kind of the reply that ends the question.
const (
	met   = 0
	fails = -1
)

// Question is what a question has come to (P8). Between two calls it is suspended: then its choices alone matter.
type Question struct {
	names   []string // of the named variables
	now     state
	choices []choice
}

// state is what is to be met, and what the named variables stand for.
type state struct {
	goals []term.Term
	terms []term.Term
	fresh int // from this number on there are no variables
}

// choice is the state ahead of a goal that is its first, and the clauses that are still to be used for it, by where they stand. That of a not has no clauses: its state is the one behind the not.
type choice struct {
	from    state
	clauses []int
}

// Begin makes a question of its goals and of what its variables are called.
func Begin(goals []term.Term, names []string) *Question {
	q := &Question{now: state{goals: goals, fresh: len(names)}}
	for i, name := range names {
		if isNamed(name) {
			q.names = append(q.names, name)
			q.now.terms = append(q.now.terms, term.Term{term.Part{Kind: term.Variable, Value: i}})
		}
	}
	return q
}

// isNamed tells whether a variable is one that answers tell of.
func isNamed(variable string) bool { return len(variable) > 0 && variable[0] != '_' }

// First plays a question that has begun till there is a reply.
func (q *Question) First(clauses []term.Clause, limit int) api.Reply {
	if q.now.size() > api.MaxSize {
		return api.Reply{Kind: api.Big}
	}
	kind := q.play(clauses, limit, met)
	return q.reply(kind)
}

// Next plays a suspended question on, behind its answer.
func (q *Question) Next(clauses []term.Clause, limit int) api.Reply {
	kind := q.play(clauses, limit, fails)
	return q.reply(kind)
}

// play goes on behind a goal that was met or that fails, and answers the kind of the reply.
func (q *Question) play(clauses []term.Clause, limit int, outcome int) int {
	taken := 0
	for {
		for outcome == fails {
			outcome = q.again(clauses)
		}
		if outcome != met {
			return outcome
		}
		if len(q.now.goals) == 0 {
			return api.Answer
		}
		if taken >= limit {
			return api.Limit
		}
		taken++
		outcome = q.take(clauses)
	}
}

// again takes up the latest choice; No, if there is none.
func (q *Question) again(clauses []term.Clause) int {
	last := len(q.choices) - 1
	if last < 0 {
		return api.No
	}
	latest := q.choices[last]
	q.dropTo(last)
	if len(latest.clauses) == 0 {
		q.now = latest.from
		return met
	}
	which := latest.clauses[0]
	rest := latest.clauses[1:]
	if len(rest) > 0 {
		q.choices = append(q.choices, choice{from: latest.from, clauses: rest})
	}
	return q.use(latest.from, clauses[which], last)
}

// dropTo drops the latest choices, until there are no more than a height says.
func (q *Question) dropTo(height int) {
	for i := len(q.choices) - 1; i >= 0 && i >= height; i-- {
		q.choices[i] = choice{} // lest it be kept behind the list's end
		q.choices = q.choices[:i]
	}
}

// take takes the first goal.
func (q *Question) take(clauses []term.Clause) int {
	goal := q.now.goals[0]
	top := goal.Top()
	if top.Kind == term.Cut || goal.BuiltIn() {
		return q.builtIn(goal)
	}
	matching, known := q.now.matching(clauses)
	if !known {
		return api.Unknown
	}
	return q.choose(clauses, matching)
}

// matching tells which clauses match a state's first goal, and whether there are any of its predicate.
func (s state) matching(clauses []term.Clause) ([]int, bool) {
	top := s.goals[0].Top()
	known := false
	var matching []int
	for i, clause := range clauses {
		if clause.Head.Top() != top {
			continue
		}
		known = true
		_, outcome := s.with(clause, 0)
		if outcome != fails {
			matching = append(matching, i)
		}
	}
	return matching, known
}

// choose uses the first of the matching clauses, and keeps the others as a choice.
func (q *Question) choose(clauses []term.Clause, matching []int) int {
	if len(matching) == 0 {
		return fails
	}
	height := len(q.choices)
	rest := matching[1:]
	if len(rest) > 0 {
		if height >= api.MaxChoices {
			return api.Deep
		}
		q.choices = append(q.choices, choice{from: q.now, clauses: rest})
	}
	return q.use(q.now, clauses[matching[0]], height)
}

// use goes on from a state with a clause for its first goal.
func (q *Question) use(from state, clause term.Clause, height int) int {
	next, outcome := from.with(clause, height)
	if outcome == met {
		q.now = next
	}
	return outcome
}

// with is what comes of a state, if a clause is used for its first goal, and the outcome.
func (s state) with(clause term.Clause, height int) (state, int) {
	own := clause.Own(s.fresh, height)
	e := equation{firsts: s.goals[0], seconds: own.Head, body: own.Body, behind: s.goals[1:], terms: s.terms}
	outcome := e.solve()
	if outcome != met {
		return state{}, outcome
	}
	return state{goals: joined(e.body, e.behind), terms: e.terms, fresh: s.fresh + clause.Past()}, met
}

// size tells how many parts the goals and terms have.
func (s state) size() int {
	size := 0
	for _, t := range joined(s.goals, s.terms) {
		size += len(t)
	}
	return size
}

// joined is a new list: neither of the two may be added to, since others hold them too.
func joined(first []term.Term, second []term.Term) []term.Term {
	var both []term.Term
	both = append(both, first...)
	both = append(both, second...)
	return both
}
