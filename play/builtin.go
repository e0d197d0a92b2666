package play

import (
	"prompt/api"
	"prompt/term"
)

// builtIn does a goal that no clause can have (P9).
func (q *Question) builtIn(goal term.Term) int {
	top := goal.Top()
	if top.Kind == term.Cut {
		q.dropTo(top.Value)
		return q.meet()
	}
	switch top.Name {
	case "true":
		return q.meet()
	case "eq":
		return q.equal(goal.Arg(0), goal.Arg(1))
	case "less":
		return q.less(goal)
	case "plus":
		return q.plus(goal)
	case "not":
		return q.not(goal.Arg(0))
	}
	return fails // what is left is fail
}

// meet drops the goal that is taken.
func (q *Question) meet() int {
	q.now.goals = q.now.goals[1:]
	return met
}

func (q *Question) equal(first term.Term, second term.Term) int {
	e := equation{firsts: first, seconds: second, behind: q.now.goals[1:], terms: q.now.terms}
	outcome := e.solve()
	if outcome == met {
		q.now.goals = e.behind
		q.now.terms = e.terms
	}
	return outcome
}

func (q *Question) less(goal term.Term) int {
	first, second, outcome := numbers(goal)
	if outcome != met {
		return outcome
	}
	if first >= second {
		return fails
	}
	return q.meet()
}

func (q *Question) plus(goal term.Term) int {
	first, second, outcome := numbers(goal)
	if outcome != met {
		return outcome
	}
	sum := first + second
	if sum < -api.MaxNumber || sum > api.MaxNumber {
		return api.Range
	}
	return q.equal(term.Term{term.Part{Kind: term.Number, Value: sum}}, goal.Arg(2))
}

// numbers are a goal's first two arguments, and the outcome: met, if they are numbers.
func numbers(goal term.Term) (int, int, int) {
	first := goal.Arg(0).Top()
	second := goal.Arg(1).Top()
	outcome := number(first)
	if outcome == met {
		outcome = number(second)
	}
	if outcome != met {
		return 0, 0, outcome
	}
	return first.Value, second.Value, met
}

func number(top term.Part) int {
	switch top.Kind {
	case term.Variable:
		return api.Unbound
	case term.Number:
		return met
	}
	return api.Mistyped
}

// not tries a term as the only goal. If it is met, the cut behind it drops the choice that is put here and all above it, so that the not fails; else that choice is taken up, by which the not is met.
func (q *Question) not(tried term.Term) int {
	switch tried.Top().Kind {
	case term.Variable:
		return api.Unbound
	case term.Number:
		return api.Mistyped
	}
	height := len(q.choices)
	if height >= api.MaxChoices {
		return api.Deep
	}
	behind := q.now
	behind.goals = behind.goals[1:]
	q.choices = append(q.choices, choice{from: behind})
	drop := term.Term{term.Part{Kind: term.Cut, Value: height}}
	fail := term.Term{term.Part{Kind: term.Name, Name: "fail"}}
	q.now.goals = []term.Term{tried, drop, fail}
	return met
}
