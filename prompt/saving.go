package prompt

import (
	"prompt/api"
	"prompt/image"
	"prompt/play"
	"prompt/read"
	"prompt/term"
)

// Save tells the session as bytes (P13): its clauses as they are listed, and its question, if there is one.
func (x *Session) Save() string {
	if x == nil {
		return ""
	}
	w := &image.Writer{}
	w.Number(len(x.clauses))
	for _, clause := range x.clauses {
		w.Word(clause.Text())
	}
	if x.question == nil {
		w.Number(0)
	} else {
		w.Number(1)
		x.question.Save(w)
	}
	return w.Image()
}

// Load puts what was saved in the place of the clauses and of the question (P13, P14). What could be understood, but would not be told in just these bytes, is no image either.
func (x *Session) Load(image string) api.Errno {
	if x == nil {
		return api.ErrImage
	}
	saved := opened(image)
	if saved == nil || saved.Save() != image {
		return api.ErrImage
	}
	x.clauses = saved.clauses
	x.question = saved.question
	return api.OK
}

// opened is a session, without a limit, that has what some bytes tell; nil, if they tell none.
func opened(bytes string) *Session {
	from := image.Open(bytes)
	saved := &Session{clauses: loadClauses(from)}
	asked := from.Number(1)
	if asked == 1 {
		saved.question = play.Load(from, saved.clauses)
	}
	if from.Wrong() {
		return nil
	}
	return saved
}

// loadClauses reads each clause like a text that is consulted, so that none is there that could not have been.
func loadClauses(from *image.Reader) []term.Clause {
	count := from.Number(api.MaxClauses)
	var clauses []term.Clause
	for i := 0; i < count; i++ {
		line := from.Word(api.MaxText)
		one, code, _ := read.Clauses(line)
		if code != api.OK || len(one) != 1 {
			from.Refuse()
			return nil
		}
		clauses = append(clauses, one...)
	}
	return clauses
}
