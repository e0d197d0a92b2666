// Package read: texts, read as clauses or as a question.
package read

import (
	"prompt/api"
	"prompt/term"
)

// reader goes through a text token by token. Its methods that answer false have laid down what is wrong, and where, and then nothing more is read.
type reader struct {
	text  string
	token token    // the first that has not been used yet
	names []string // of the variables of this clause or question, so far
	code  api.Errno
	place int
}

// Clauses reads a text as clauses (P4): these, or what is wrong and at which place.
func Clauses(text string) ([]term.Clause, api.Errno, int) {
	if len(text) > api.MaxText {
		return nil, api.ErrLong, 0
	}
	r := reader{text: text}
	r.step()
	var clauses []term.Clause
	for r.token.kind != end {
		c, ok := r.clause()
		if !ok {
			return nil, r.code, r.place
		}
		clauses = append(clauses, c)
	}
	return clauses, api.OK, 0
}

// Question reads a text as one question (P4): its goals and what each of its variables is called, or what is wrong and at which place.
func Question(text string) ([]term.Term, []string, api.Errno, int) {
	if len(text) > api.MaxText {
		return nil, nil, api.ErrLong, 0
	}
	r := reader{text: text}
	r.step()
	goals, ok := r.goals()
	if ok {
		ok = r.expect(dot)
	}
	if ok {
		ok = r.expect(end)
	}
	if !ok {
		return nil, nil, r.code, r.place
	}
	return goals, r.names, api.OK, 0
}

func (r *reader) step() { r.token = scan(r.text, r.token.to) }

// refuse stops at the token at hand. One that is wrong in itself has a reason of its own, wherever it stands.
func (r *reader) refuse(code api.Errno) {
	r.code = code
	if r.token.kind == wrong {
		r.code = r.token.code
	}
	r.place = r.token.from
}

// expect steps behind a token that must stand here.
func (r *reader) expect(kind int) bool {
	if r.token.kind != kind {
		r.refuse(api.ErrSyntax)
		return false
	}
	r.step()
	return true
}

func (r *reader) clause() (term.Clause, bool) {
	r.names = nil
	head, ok := r.head()
	if !ok {
		return term.Clause{}, false
	}
	var body []term.Term
	if r.token.kind == follows {
		r.step()
		body, ok = r.goals()
		if !ok {
			return term.Clause{}, false
		}
	}
	ok = r.expect(dot)
	if !ok {
		return term.Clause{}, false
	}
	return term.Clause{Head: head, Body: body}, true
}

func (r *reader) head() (term.Term, bool) {
	first := r.token
	if first.kind == variable || first.kind == number {
		r.refuse(api.ErrHead)
		return nil, false
	}
	head, ok := r.term()
	if !ok {
		return nil, false
	}
	if head.BuiltIn() {
		r.code = api.ErrHead
		r.place = first.from
		return nil, false
	}
	return head, true
}

func (r *reader) goals() ([]term.Term, bool) {
	var goals []term.Term
	for {
		goal, ok := r.goal()
		if !ok {
			return nil, false
		}
		goals = append(goals, goal)
		if r.token.kind != comma {
			return goals, true
		}
		if len(goals) >= api.MaxGoals {
			r.refuse(api.ErrMany)
			return nil, false
		}
		r.step()
	}
}

func (r *reader) goal() (term.Term, bool) {
	switch r.token.kind {
	case cut:
		r.step()
		return term.Term{term.Part{Kind: term.Cut}}, true
	case variable:
		// One variable too many is named ahead of a goal that is none.
		_, ok := r.which()
		if ok {
			r.refuse(api.ErrGoal)
		}
		return nil, false
	case number:
		r.refuse(api.ErrGoal)
		return nil, false
	}
	return r.term()
}

func (r *reader) term() (term.Term, bool) {
	switch r.token.kind {
	case variable:
		value, ok := r.which()
		if !ok {
			return nil, false
		}
		r.step()
		return term.Term{term.Part{Kind: term.Variable, Value: value}}, true
	case number:
		value := r.value()
		r.step()
		return term.Term{term.Part{Kind: term.Number, Value: value}}, true
	case name:
		return r.named()
	}
	r.refuse(api.ErrSyntax)
	return nil, false
}

// named reads a term that begins with a name.
func (r *reader) named() (term.Term, bool) {
	parts := term.Term{term.Part{Kind: term.Name, Name: r.word()}}
	r.step()
	if r.token.kind != opening {
		return parts, true
	}
	for {
		r.step()
		argument, ok := r.term()
		if !ok {
			return nil, false
		}
		parts = append(parts, argument...)
		parts[0].Args++
		if r.token.kind == closing {
			r.step()
			return parts, true
		}
		if r.token.kind != comma {
			r.refuse(api.ErrSyntax)
			return nil, false
		}
		if parts[0].Args >= api.MaxArgs {
			r.refuse(api.ErrMany)
			return nil, false
		}
	}
}

// which tells which variable of the clause or question the one at hand is.
func (r *reader) which() (int, bool) {
	called := r.word()
	for i, known := range r.names {
		if known == called && called != "_" {
			return i, true
		}
	}
	if len(r.names) >= api.MaxVars {
		r.refuse(api.ErrMany)
		return 0, false
	}
	r.names = append(r.names, called)
	return len(r.names) - 1, true
}

// word is the name or variable at hand: a copy, so that no term keeps the whole text.
func (r *reader) word() string {
	return string([]byte(r.text[r.token.from:r.token.to]))
}

// value is the number at hand; it has too few digits to be one that cannot be.
func (r *reader) value() int {
	value := 0
	for i := r.token.from; i < r.token.to; i++ {
		if isDigit(r.text[i]) {
			value = value*10 + int(r.text[i]-'0')
		}
	}
	if r.text[r.token.from] == '-' {
		return -value
	}
	return value
}
