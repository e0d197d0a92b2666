// Package prompt: questions about rules and facts, one answer after the other. See DOC.md.
package prompt

import (
	"prompt/api"
	"prompt/play"
	"prompt/read"
	"prompt/term"
)

// Session holds clauses, and a question that may go on.
type Session struct {
	limit    int // of steps
	clauses  []term.Clause
	question *play.Question // the one that is suspended, or nil
}

// New makes a session with a limit of steps (P3).
func New(limit int) (*Session, api.Errno) {
	if limit < 1 || limit > api.MaxSteps {
		return nil, api.ErrArg
	}
	return &Session{limit: limit}, api.OK
}

// Consult adds the clauses of a text (P4, P5).
func (x *Session) Consult(text string) (api.Errno, int) {
	if x == nil {
		return api.ErrArg, 0
	}
	x.Stop()
	clauses, code, place := read.Clauses(text)
	if code != api.OK {
		return code, place
	}
	if len(x.clauses)+len(clauses) > api.MaxClauses {
		return api.ErrFull, 0
	}
	x.clauses = append(x.clauses, clauses...)
	return api.OK, 0
}

// Listing tells all clauses (P6).
func (x *Session) Listing() string {
	if x == nil {
		return ""
	}
	listing := ""
	for _, clause := range x.clauses {
		listing += clause.Text() + "\n"
	}
	return listing
}

// Ask asks a question (P7 to P12).
func (x *Session) Ask(text string) api.Reply {
	if x == nil {
		return api.Reply{Kind: api.Idle}
	}
	x.Stop()
	goals, names, code, place := read.Question(text)
	if code != api.OK {
		return api.Reply{Kind: api.Bad, Code: code, Place: place}
	}
	question := play.Begin(goals, names)
	reply := question.First(x.clauses, x.limit)
	if reply.Kind == api.Answer {
		x.question = question
	}
	return reply
}

// More asks for the next answer (P7).
func (x *Session) More() api.Reply {
	if x == nil || x.question == nil {
		return api.Reply{Kind: api.Idle}
	}
	reply := x.question.Next(x.clauses, x.limit)
	if reply.Kind != api.Answer {
		x.Stop()
	}
	return reply
}

// Stop ends the question (P7).
func (x *Session) Stop() {
	if x != nil {
		x.question = nil
	}
}
