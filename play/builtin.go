package play

import (
	"prompt/api"
	"prompt/term"
)

// builtIn does a goal that no clause can have (P9). Cuts, not, less and plus are not built yet: they are answered as if they were unknown.
func (q *Question) builtIn(goal term.Term) int {
	switch goal.Top().Name {
	case "true":
		q.now.goals = q.now.goals[1:]
		return met
	case "fail":
		return fails
	case "eq":
		return q.equal(goal)
	}
	return api.Unknown
}

func (q *Question) equal(goal term.Term) int {
	args := goal[1:]
	first := args.Lead()
	e := equation{firsts: args[:first], seconds: args[first:], behind: q.now.goals[1:], terms: q.now.terms}
	outcome := e.solve()
	if outcome == met {
		q.now.goals = e.behind
		q.now.terms = e.terms
	}
	return outcome
}
