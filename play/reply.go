package play

import (
	"prompt/api"
	"prompt/term"
)

// reply makes the reply of its kind. An answer leaves the question suspended.
func (q *Question) reply(kind int) api.Reply {
	if kind != api.Answer {
		return api.Reply{Kind: kind}
	}
	text := q.text()
	q.suspend()
	return api.Reply{Kind: kind, Text: text}
}

// text writes what the named variables stand for (P12).
func (q *Question) text() string {
	if len(q.names) == 0 {
		return "yes"
	}
	terms, _ := term.Renumber(q.now.terms)
	text := ""
	for i, t := range terms {
		if i > 0 {
			text += ", "
		}
		text += q.names[i] + " = " + t.Answer()
	}
	return text
}

// suspend drops what has been met, and numbers the variables of each choice anew: else their numbers would grow with each answer, without an end.
func (q *Question) suspend() {
	q.now = state{}
	for i, c := range q.choices {
		q.choices[i].from = c.from.renumbered()
	}
}

func (s state) renumbered() state {
	all, count := term.Renumber(joined(s.goals, s.terms))
	goals := len(s.goals)
	return state{goals: all[:goals], terms: all[goals:], fresh: count}
}
