package play

import (
	"prompt/api"
	"prompt/image"
	"prompt/term"
)

// How a part of a term begins in an image: a name with the number of its arguments, which are at most MaxArgs, other parts with one of these.
const (
	aVariable = api.MaxArgs + 1
	aNumber   = api.MaxArgs + 2
)

// Save tells a question that is suspended: what its variables are called, and its choices.
func (q *Question) Save(w *image.Writer) {
	w.Number(len(q.names))
	for _, name := range q.names {
		w.Word(name)
	}
	w.Number(len(q.choices))
	for _, c := range q.choices {
		c.save(w)
	}
}

// save tells a choice. It has as many terms as the question has names, and its clauses are the last of those that match its goal.
func (c choice) save(w *image.Writer) {
	w.Number(len(c.from.goals))
	for _, goal := range c.from.goals {
		saveGoal(w, goal)
	}
	for _, t := range c.from.terms {
		saveTerm(w, t)
	}
	w.Number(len(c.clauses))
}

// saveGoal tells a cut as its height and 1, and 0 ahead of any other goal.
func saveGoal(w *image.Writer, goal term.Term) {
	top := goal.Top()
	if top.Kind == term.Cut {
		w.Number(top.Value + 1)
		return
	}
	w.Number(0)
	saveTerm(w, goal)
}

func saveTerm(w *image.Writer, t term.Term) {
	for _, part := range t {
		switch part.Kind {
		case term.Variable:
			w.Number(aVariable)
			w.Number(part.Value)
		case term.Number:
			w.Number(aNumber)
			w.Number(part.Value + api.MaxNumber)
		default:
			w.Number(part.Args)
			w.Word(part.Name)
		}
	}
}
