package prompt_test

import (
	"strings"
	"testing"

	"prompt/api"
	"prompt/prompt"
)

const three = "d(0). d(1). d(2). "

// A cut drops the choices of the goals ahead of it in its body, and the clauses behind its own.
func TestP9CutInBody(t *testing.T) {
	x := holding(t, three, "first(X) :- d(X), !. first(9). calls(X) :- first(X). calls(7). after(X, Y) :- d(X), !, d(Y). after(9, 9). begins(X) :- !, d(X). begins(9). twice(X, Y) :- d(X), !, d(Y), !. twice(9, 9).")
	wantReplies(t, x, "first(X).", "X = 0", "No", "Idle")
	wantReplies(t, x, "first(2).", "yes", "No")
	wantReplies(t, x, "first(9).", "yes", "No")
	wantReplies(t, x, "first(8).", "No")
	wantReplies(t, x, "twice(X, Y).", "X = 0, Y = 0", "No")
	wantReplies(t, x, "twice(9, Y).", "Y = 9", "No")
	// It leaves what came about before its clause's goal was taken, and what comes about behind it.
	wantReplies(t, x, "calls(X).", "X = 0", "X = 7", "No")
	wantReplies(t, x, "d(Y), first(X).", "Y = 0, X = 0", "Y = 1, X = 0", "Y = 2, X = 0", "No")
	wantReplies(t, x, "first(X), d(Y).", "X = 0, Y = 0", "X = 0, Y = 1", "X = 0, Y = 2", "No")
	wantReplies(t, x, "after(X, Y).", "X = 0, Y = 0", "X = 0, Y = 1", "X = 0, Y = 2", "No")
	wantReplies(t, x, "begins(X).", "X = 0", "X = 1", "X = 2", "No")
	wantReplies(t, x, "calls(X), calls(Y).", "X = 0, Y = 0", "X = 0, Y = 7", "X = 7, Y = 0", "X = 7, Y = 7", "No")
	wantReplies(t, x, "d(X), less(0, X), first(Y), d(Z), less(Z, 1).", "X = 1, Y = 0, Z = 0", "X = 2, Y = 0, Z = 0", "No")
}

// A cut of a clause that was left in a choice has the height of the goal's first clause.
func TestP9CutTakenUp(t *testing.T) {
	x := holding(t, three, "p(1). p(X) :- d(X), less(0, X), !. p(3). q(1). q(2) :- !. q(3). r(X) :- q(X). r(4) :- !. r(5). s(1). s(2). s(3) :- d(_), d(_), !. s(4).")
	wantReplies(t, x, "p(X).", "X = 1", "X = 1", "No")
	wantReplies(t, x, "q(X).", "X = 1", "X = 2", "No")
	wantReplies(t, x, "r(X).", "X = 1", "X = 2", "X = 4", "No")
	wantReplies(t, x, "s(X).", "X = 1", "X = 2", "X = 3", "No")
	wantReplies(t, x, "s(X), q(Y).", "X = 1, Y = 1", "X = 1, Y = 2", "X = 2, Y = 1", "X = 2, Y = 2", "X = 3, Y = 1", "X = 3, Y = 2", "No")
}

func TestP9CutAndFail(t *testing.T) {
	x := holding(t, three, "never :- !, fail. never. but(X) :- eq(X, 1), !, fail. but(_). gives(X) :- d(X), never. gives(5). stops(X) :- d(X), !, fail. stops(5).")
	wantReplies(t, x, "never.", "No", "Idle")
	wantReplies(t, x, "d(X), but(X).", "X = 0", "X = 2", "No")
	wantReplies(t, x, "but(X).", "No")
	wantReplies(t, x, "gives(X).", "X = 5", "No")
	wantReplies(t, x, "stops(X).", "No")
	wantReplies(t, x, "stops(5).", "yes", "No")
	wantReplies(t, x, "d(X), stops(Y).", "No")
}

// A question's cut leaves no choice at all.
func TestP9CutInQuestion(t *testing.T) {
	x := holding(t, three, "two(X, Y) :- d(X), d(Y).")
	wantReplies(t, x, "!.", "yes", "No", "Idle")
	wantReplies(t, x, "!, !, !.", "yes", "No", "Idle")
	wantReplies(t, x, "!, d(X).", "X = 0", "X = 1", "X = 2", "No")
	wantReplies(t, x, "d(X), !.", "X = 0", "No", "Idle")
	wantReplies(t, x, "d(X), d(Y), !.", "X = 0, Y = 0", "No")
	wantReplies(t, x, "two(X, Y), !.", "X = 0, Y = 0", "No")
	wantReplies(t, x, "d(X), !, d(Y).", "X = 0, Y = 0", "X = 0, Y = 1", "X = 0, Y = 2", "No")
	wantReplies(t, x, "d(X), !, d(Y), !, d(Z).", "X = 0, Y = 0, Z = 0", "X = 0, Y = 0, Z = 1", "X = 0, Y = 0, Z = 2", "No")
	wantReplies(t, x, "two(X, Y), less(X, Y), less(1, Y), !.", "X = 0, Y = 2", "No")
	wantReplies(t, x, "d(X), !, less(0, X).", "No")
	wantReplies(t, x, "d(X), !, fail.", "No", "Idle")
	wantReplies(t, x, "fail, !.", "No")
	wantReplies(t, x, "d(X), !, none.", "Unknown")
}

func TestP9CutBehindNot(t *testing.T) {
	x := holding(t, three, "p(X) :- d(X), not(eq(X, 0)), !. p(9). q(X) :- not(fail), !, d(X). q(9). r(X) :- not(d(7)), d(X). r(9).")
	wantReplies(t, x, "d(X), not(eq(X, 0)), !.", "X = 1", "No")
	wantReplies(t, x, "not(d(7)), !, d(X).", "X = 0", "X = 1", "X = 2", "No")
	wantReplies(t, x, "not(not(d(_))), d(X), !.", "X = 0", "No")
	wantReplies(t, x, "d(X), not(not(less(0, X))), !, d(Y), not(eq(Y, 1)).", "X = 1, Y = 0", "X = 1, Y = 2", "No")
	wantReplies(t, x, "p(X).", "X = 1", "No")
	wantReplies(t, x, "d(X), p(Y).", "X = 0, Y = 1", "X = 1, Y = 1", "X = 2, Y = 1", "No")
	wantReplies(t, x, "q(X).", "X = 0", "X = 1", "X = 2", "No")
	wantReplies(t, x, "r(X).", "X = 0", "X = 1", "X = 2", "X = 9", "No")
}

// A cut of a clause that is used within a not stays within it.
func TestP9CutWithinNot(t *testing.T) {
	x := holding(t, three, "stops :- d(_), !, fail. stops. gives :- d(_), !. gives :- none. part(X) :- not(stops), d(X). part(9) :- not(gives). part(8).")
	wantReplies(t, x, "not(stops).", "yes", "No", "Idle")
	wantReplies(t, x, "not(gives).", "No", "Idle")
	wantReplies(t, x, "d(X), not(stops).", "X = 0", "X = 1", "X = 2", "No")
	wantReplies(t, x, "d(X), not(not(gives)).", "X = 0", "X = 1", "X = 2", "No")
	wantReplies(t, x, "d(X), not(gives).", "No")
	wantReplies(t, x, "not(not(stops)).", "No")
	wantReplies(t, x, "part(X).", "X = 0", "X = 1", "X = 2", "X = 8", "No")
}

// What a cut has dropped leaves room for other choices.
func TestP9CutMakesRoom(t *testing.T) {
	x := limited(t, api.MaxSteps, choosing, "go :- d(_), !, go. in :- eight, eight, !.")
	wantReplies(t, x, "eight, eight, eight.", "Deep")
	wantReplies(t, x, "eight, eight, !, eight, eight, d(_), d(_), d(_).", "yes")
	wantReplies(t, x, "in, in, in, in, d(Y), in, d(X).", "Y = 0, X = 0", "Y = 0, X = 1", "Y = 1, X = 0", "Y = 1, X = 1", "No")
	wantReplies(t, x, "in, d(_), d(_), d(_), d(_), in, eight, eight.", "yes")
	wantReplies(t, x, "in, eight, in.", "Deep")
	wantReplies(t, x, "go.", "Limit", "Idle")
	wantReplies(t, x, "eight, eight, d(_), d(_), d(_), d(_), !, d(X).", "X = 0", "X = 1", "No")
}

func TestP9Not(t *testing.T) {
	x := holding(t, three, "q(1). r(X) :- d(X), not(q(X)). s(X) :- not(X). s(last). member(X, c(X, _)). member(X, c(_, L)) :- member(X, L).")
	for _, c := range []struct{ question, word string }{
		// Without an answer it is met, with any it fails.
		{"not(d(7)).", "yes"}, {"not(fail).", "yes"}, {"not(eq(a, b)).", "yes"}, {"not(less(2, 1)).", "yes"}, {"not(plus(1, 2, 4)).", "yes"}, {"not(member(d, c(a, c(b, nil)))).", "yes"}, {"not(q(0)), not(q(2)).", "yes"},
		{"not(d(0)).", "No"}, {"not(d(2)).", "No"}, {"not(d(_)).", "No"}, {"not(d(X)).", "No"}, {"not(true).", "No"}, {"not(eq(a, a)).", "No"}, {"not(eq(X, Y)).", "No"}, {"not(less(1, 2)).", "No"}, {"not(plus(1, 2, X)).", "No"}, {"not(member(b, c(a, c(b, nil)))).", "No"}, {"not(q(0)), not(q(1)).", "No"},
		// Within another, and more often.
		{"not(not(d(0))).", "yes"}, {"not(not(d(7))).", "No"}, {"not(not(not(d(0)))).", "No"}, {"not(not(not(d(7)))).", "yes"}, {"not(not(not(not(fail)))).", "No"}, {"not(not(not(not(true)))).", "yes"}, {"not(not(d(0))), not(not(d(1))).", "yes"}, {"not(r(1)), not(not(r(2))).", "yes"},
		// Of a variable or a number.
		{"not(X).", "Unbound"}, {"not(_).", "Unbound"}, {"not(0).", "Mistyped"}, {"not(-3).", "Mistyped"}, {"not(999999999).", "Mistyped"}, {"not(not(X)).", "Unbound"}, {"not(not(3)).", "Mistyped"}, {"eq(X, Y), not(X).", "Unbound"}, {"eq(X, 3), not(X).", "Mistyped"}, {"eq(X, d(7)), not(X).", "X = d(7)"}, {"eq(X, d(0)), not(X).", "No"}, {"eq(X, fail), not(X).", "X = fail"}, {"eq(X, not(Y)), eq(Y, fail), not(X).", "No"}, {"s(d(7)).", "yes"}, {"s(d(0)).", "No"}, {"s(Y).", "Unbound"}, {"s(1).", "Mistyped"}, {"s(last).", "Unknown"}, {"fail, not(X).", "No"},
		// What ends a question ends it there too.
		{"not(none).", "Unknown"}, {"not(d).", "Unknown"}, {"not(d(1, 2)).", "Unknown"}, {"not(eq(X, f(X))).", "Cyclic"}, {"not(less(X, 1)).", "Unbound"}, {"not(less(a, 1)).", "Mistyped"}, {"not(plus(999999999, 1, _)).", "Range"}, {"not(member(a, L)).", "No"}, {"not(member(a, b)), none.", "Unknown"},
		// Other numbers of arguments are other predicates.
		{"not.", "Unknown"}, {"not(d(7), d(7)).", "Unknown"},
	} {
		wantEnded(t, x, c.question, c.word)
	}
	wantReplies(t, x, "r(X).", "X = 0", "X = 2", "No")
	wantReplies(t, x, "d(X), not(eq(X, 1)).", "X = 0", "X = 2", "No")
	wantReplies(t, x, "not(fail), d(X).", "X = 0", "X = 1", "X = 2", "No")
	wantReplies(t, x, "d(X), d(Y), not(less(X, Y)), not(less(Y, X)).", "X = 0, Y = 0", "X = 1, Y = 1", "X = 2, Y = 2", "No")
	y := holding(t, "not. not(X, Y) :- not(not), eq(X, Y). not(X, Y) :- not(fail), eq(X, f(Y)).")
	wantReplies(t, y, "not, not(A, a).", "A = f(a)", "No")
}

// wantEnded asks a question that has one answer at most; an answer must be followed by No.
func wantEnded(t *testing.T, x *prompt.Session, question string, word string) {
	t.Helper()
	if expected(word).Kind == api.Answer {
		wantReplies(t, x, question, word, "No", "Idle")
		return
	}
	wantReplies(t, x, question, word, "Idle")
}

// What a not has tried leaves nothing behind.
func TestP9NotVariables(t *testing.T) {
	x := holding(t, three, "any(_, _). pair(f(X, Y), X, Y). unlike(X, Y) :- not(eq(X, Y)).")
	wantReplies(t, x, "not(not(d(X))).", "X = _1", "No")
	wantReplies(t, x, "not(not(d(X))), d(X).", "X = 0", "X = 1", "X = 2", "No")
	wantReplies(t, x, "not(not(eq(X, 1))), eq(X, 2).", "X = 2", "No")
	wantReplies(t, x, "not(not(eq(X, Y))), eq(X, 1), eq(Y, 2).", "X = 1, Y = 2", "No")
	wantReplies(t, x, "not(not(any(X, Y))), any(Y, X).", "X = _1, Y = _2", "No")
	wantReplies(t, x, "not(not(pair(P, a, B))), pair(P, Q, c).", "P = f(_1,c), B = _2, Q = _1", "No")
	wantReplies(t, x, "not(not(pair(X, Y, Y))), eq(Z, g(X, Y)).", "X = _1, Y = _2, Z = g(_1,_2)", "No")
	wantReplies(t, x, "not(eq(f(X, a), f(1, b))), eq(X, 2).", "X = 2", "No")
	wantReplies(t, x, "not(eq(f(X, Y, a), f(Y, 1, b))), eq(X, 2).", "X = 2, Y = _1", "No")
	// What was known ahead of it is known within it and behind it.
	wantReplies(t, x, "eq(X, 1), not(eq(X, 2)), eq(Y, X).", "X = 1, Y = 1", "No")
	wantReplies(t, x, "eq(X, f(Y)), not(not(eq(Y, 1))), eq(Y, 2).", "X = f(2), Y = 2", "No")
	wantReplies(t, x, "d(X), not(not(plus(X, 1, Y))), plus(X, 2, Y).", "X = 0, Y = 2", "X = 1, Y = 3", "X = 2, Y = 4", "No")
	wantReplies(t, x, "unlike(X, 1), eq(X, 2).", "No")
	wantReplies(t, x, "eq(X, 2), unlike(X, 1).", "X = 2", "No")
	wantReplies(t, x, "not(unlike(X, Y)), unlike(a, b).", "X = _1, Y = _2", "No")
}

func TestP9NotDeep(t *testing.T) {
	const nineteen = "eight, eight, d(_), d(_), d(_), "
	const twenty = "eight, eight, d(_), d(_), d(_), d(_), "
	x := limited(t, api.MaxSteps, choosing, "nine :- eight, d(_). n(z) :- fail. n(s(X)) :- not(n(X)).")
	wantReplies(t, x, twenty+"not(fail).", "Deep", "Idle")
	wantReplies(t, x, twenty+"not(true).", "Deep", "Idle")
	wantReplies(t, x, twenty+"not(none).", "Deep", "Idle")
	// Unbound and Mistyped are named first.
	wantReplies(t, x, twenty+"not(_).", "Unbound", "Idle")
	wantReplies(t, x, twenty+"not(3).", "Mistyped", "Idle")
	wantReplies(t, x, nineteen+"not(fail).", "yes", "yes")
	wantReplies(t, x, nineteen+"not(d(7)).", "yes", "yes")
	wantReplies(t, x, nineteen+"not(none).", "Unknown")
	// Its choice counts as long as it tries, and then no more.
	wantReplies(t, x, nineteen+"not(d(_)).", "Deep")
	wantReplies(t, x, nineteen+"not(not(fail)).", "Deep")
	wantReplies(t, x, nineteen+"not(fail), not(fail), d(X).", "X = 0", "X = 1")
	wantReplies(t, x, nineteen+"not(fail), d(_), d(_).", "Deep")
	wantReplies(t, x, "nine, nine, not(not(d(_))), d(_), d(X).", "Deep")
	wantReplies(t, x, "nine, eight, not(not(d(_))), d(_), d(_), d(X).", "X = 0", "X = 1")
	wantReplies(t, x, "nine, nine, d(_), not(not(true)).", "Deep")
	wantReplies(t, x, "nine, nine, not(not(true)), d(_), d(X).", "X = 0", "X = 1")
	numeral := func(n int) string { return strings.Repeat("s(", n) + "z" + strings.Repeat(")", n) }
	for n := 0; n <= api.MaxChoices; n++ {
		wantReplies(t, x, "n("+numeral(n)+").", []string{"No", "yes"}[n%2])
	}
	wantReplies(t, x, "n("+numeral(api.MaxChoices+1)+").", "Deep", "Idle")
	wantReplies(t, x, "n("+numeral(api.MaxChoices+2)+").", "Deep", "Idle")
}

// A cut, a not, what it tries, and what comes behind that are steps like others.
func TestP9Steps(t *testing.T) {
	const clauses = "d(0). d(1). c(X) :- d(X), !."
	for _, c := range []struct {
		question string
		steps    int
		words    []string
	}{
		{"!.", 1, []string{"yes", "No"}},
		{"!, !.", 2, []string{"yes", "No"}},
		{"d(X), !.", 2, []string{"X = 0", "No"}},
		{"c(X).", 3, []string{"X = 0", "No"}},
		{"less(1, 2), plus(1, 2, X).", 2, []string{"X = 3", "No"}},
		{"less(2, 1).", 1, []string{"No"}},
		{"not(fail).", 2, []string{"yes", "No"}},
		{"not(d(7)), true.", 3, []string{"yes", "No"}},
		// The not, the goal that is tried, the cut and fail.
		{"not(true).", 4, []string{"No"}},
		{"not(d(_)).", 4, []string{"No"}},
		// The nots, true, the inner not's cut and fail.
		{"not(not(true)).", 5, []string{"yes", "No"}},
		{"not(not(not(true))).", 8, []string{"No"}},
		{"not(_).", 1, []string{"Unbound"}},
		{"less(a, 1).", 1, []string{"Mistyped"}},
		{"plus(999999999, 1, X).", 1, []string{"Range"}},
	} {
		wantReplies(t, limited(t, c.steps, clauses), c.question, c.words...)
		if c.steps > 1 {
			wantReplies(t, limited(t, c.steps-1, clauses), c.question, "Limit", "Idle")
		}
		wantReplies(t, limited(t, c.steps, clauses), "true, "+c.question, "Limit", "Idle")
	}
}

func TestP9Less(t *testing.T) {
	x := holding(t, three, "less. less(X) :- less(X, 3). less(A, B, C) :- less(A, B), less(B, C).")
	for _, c := range []struct{ question, word string }{
		{"less(1, 2).", "yes"}, {"less(-3, -2).", "yes"}, {"less(-1, 0).", "yes"}, {"less(0, 1).", "yes"}, {"less(-1, 1).", "yes"}, {"less(9, 10).", "yes"}, {"less(-10, -9).", "yes"}, {"less(-999999999, 999999999).", "yes"}, {"less(-999999999, -999999998).", "yes"}, {"less(999999998, 999999999).", "yes"},
		{"less(2, 1).", "No"}, {"less(2, 2).", "No"}, {"less(-2, -3).", "No"}, {"less(0, -0).", "No"}, {"less(1, -1).", "No"}, {"less(10, 9).", "No"}, {"less(999999999, -999999999).", "No"}, {"less(999999999, 999999999).", "No"}, {"less(-999999999, -999999999).", "No"}, {"less(999999999, 999999998).", "No"},
		// The first is looked at before the second.
		{"less(X, 1).", "Unbound"}, {"less(X, Y).", "Unbound"}, {"less(X, X).", "Unbound"}, {"less(X, a).", "Unbound"}, {"less(_, f(1)).", "Unbound"}, {"less(1, X).", "Unbound"}, {"less(1, _).", "Unbound"},
		{"less(a, 1).", "Mistyped"}, {"less(a, X).", "Mistyped"}, {"less(a, a).", "Mistyped"}, {"less(f(1), 2).", "Mistyped"}, {"less(f(X), X).", "Mistyped"}, {"less(1, a).", "Mistyped"}, {"less(1, f(2)).", "Mistyped"}, {"less(2, f(X)).", "Mistyped"}, {"less(plus(1, 1), 3).", "Mistyped"},
		// What variables stand for.
		{"eq(X, 1), less(X, 2).", "X = 1"}, {"eq(f(X, Y), f(1, 2)), less(Y, X).", "No"}, {"eq(X, a), less(X, 2).", "Mistyped"}, {"eq(X, Y), less(X, 2).", "Unbound"}, {"eq(X, 1), less(X, X).", "No"}, {"less(1, 2), eq(X, 1).", "X = 1"},
		{"less.", "yes"}, {"less(2).", "yes"}, {"less(3).", "No"}, {"less(1, 2, 3).", "yes"}, {"less(1, 3, 2).", "No"}, {"less(1, 2, 3, 4).", "Unknown"},
	} {
		wantEnded(t, x, c.question, c.word)
	}
	wantReplies(t, x, "d(X), less(X, 2).", "X = 0", "X = 1", "No")
	wantReplies(t, x, "d(X), d(Y), less(X, Y).", "X = 0, Y = 1", "X = 0, Y = 2", "X = 1, Y = 2", "No")
	wantReplies(t, x, "d(X), less(0, X), less(X, a).", "Mistyped", "Idle")
}

func TestP9Plus(t *testing.T) {
	x := holding(t, three, "plus(X, Y) :- plus(X, 1, Y). n(0). n(X) :- n(Y), plus(Y, 1, X). sum(nil, 0). sum(c(X, L), S) :- sum(L, R), plus(X, R, S).")
	for _, c := range []struct{ question, word string }{
		{"plus(1, 2, X).", "X = 3"}, {"plus(-5, 3, X).", "X = -2"}, {"plus(5, -3, X).", "X = 2"}, {"plus(-5, -3, X).", "X = -8"}, {"plus(0, 0, X).", "X = 0"}, {"plus(-0, 0, 0).", "yes"}, {"plus(1, 2, 3).", "yes"}, {"plus(1, 2, _).", "yes"}, {"plus(3, -3, X).", "X = 0"},
		{"plus(1, 2, 4).", "No"}, {"plus(1, 2, -3).", "No"}, {"plus(1, 2, a).", "No"}, {"plus(1, 2, f(3)).", "No"}, {"plus(1, 2, f(X)).", "No"},
		// The edges of the numbers that can be.
		{"plus(999999999, 0, X).", "X = 999999999"}, {"plus(0, -999999999, X).", "X = -999999999"}, {"plus(999999998, 1, X).", "X = 999999999"}, {"plus(-1, -999999998, X).", "X = -999999999"}, {"plus(999999999, -999999999, X).", "X = 0"}, {"plus(-999999999, 1, X).", "X = -999999998"}, {"plus(500000000, 499999999, X).", "X = 999999999"},
		{"plus(999999999, 1, X).", "Range"}, {"plus(1, 999999999, X).", "Range"}, {"plus(-999999999, -1, X).", "Range"}, {"plus(500000000, 500000000, X).", "Range"}, {"plus(-500000000, -500000000, X).", "Range"}, {"plus(999999999, 999999999, X).", "Range"}, {"plus(-999999999, -999999999, X).", "Range"}, {"plus(999999999, 1, a).", "Range"}, {"plus(999999999, 1, 0).", "Range"}, {"plus(999999999, 1, f(X)).", "Range"},
		// The first is looked at before the second, and both before their sum.
		{"plus(X, 1, 2).", "Unbound"}, {"plus(1, X, 2).", "Unbound"}, {"plus(X, Y, Z).", "Unbound"}, {"plus(X, a, 2).", "Unbound"}, {"plus(1, X, a).", "Unbound"}, {"plus(999999999, X, X).", "Unbound"},
		{"plus(a, X, 2).", "Mistyped"}, {"plus(a, 1, X).", "Mistyped"}, {"plus(1, a, X).", "Mistyped"}, {"plus(1, f(1), 2).", "Mistyped"}, {"plus(f(1), 1, 2).", "Mistyped"}, {"plus(a, b, c).", "Mistyped"}, {"plus(999999999, a, X).", "Mistyped"},
		// What variables stand for.
		{"plus(1, 2, X), plus(X, X, Y).", "X = 3, Y = 6"}, {"plus(1, 2, X), plus(X, 1, X).", "No"}, {"plus(1, 2, X), eq(Y, f(X, X)).", "X = 3, Y = f(3,3)"}, {"eq(Y, f(X, Z)), plus(1, 2, X).", "Y = f(3,_1), X = 3, Z = _1"}, {"eq(X, 4), plus(1, X, Y).", "X = 4, Y = 5"}, {"eq(X, Y), plus(1, 1, X).", "X = 2, Y = 2"}, {"eq(X, Y), plus(1, Y, X).", "Unbound"}, {"plus(1, 2, X), less(X, 4).", "X = 3"}, {"plus(1, 2, X), less(X, 3).", "No"},
		{"sum(c(1, c(2, c(-7, nil))), S).", "S = -4"}, {"plus(7, X).", "X = 8"}, {"plus.", "Unknown"}, {"plus(1).", "Unknown"}, {"plus(1, 2, 3, 4).", "Unknown"},
	} {
		wantEnded(t, x, c.question, c.word)
	}
	wantReplies(t, x, "d(X), plus(X, Y, 2).", "Unbound")
	wantReplies(t, x, "d(X), d(Y), plus(X, Y, 2).", "X = 0, Y = 2", "X = 1, Y = 1", "X = 2, Y = 0", "No")
	wantReplies(t, x, "n(X).", "X = 0", "X = 1", "X = 2", "X = 3", "X = 4")
	wantReplies(t, x, "n(X), less(2, X), !.", "X = 3", "No")
}

// A sum in a variable's place is counted like all that is put there, by what there is to be met.
func TestP9PlusBig(t *testing.T) {
	great := "h(" + a(120) + ")"
	x := holding(t, great+".", "l1 :- l2, "+great+".", "l2 :- plus(1, 2, 3), "+great+".", "m1 :- m2, "+great+".", "m2 :- plus(1, 2, _), "+great+".", "n1 :- n2, "+great+".", "n2 :- less(1, 2), !, not(fail), "+great+".")
	wantReplies(t, x, "l1.", "yes", "No")
	wantReplies(t, x, "m1.", "Big", "Idle")
	wantReplies(t, x, "m2.", "yes", "No")
	wantReplies(t, x, "n1.", "yes", "No")
}

// While a not tries, what is behind it is not to be met, and so not counted; its cut and fail are.
func TestP9NotBig(t *testing.T) {
	x := holding(t, "v(_).")
	const behind = ", eq(Y, f(_X, _X)), v(_X)."
	wantReplies(t, x, "eq(_X, "+a(66)+")"+behind, "Big")
	wantReplies(t, x, "not(not(eq(_X, "+a(66)+")))"+behind, "Y = f(_1,_1)", "No")
	wantReplies(t, x, "not(not(eq(_X, "+a(66)+"))), eq(_X, a)"+behind, "Y = f(a,a)", "No")
	// With 98 parts for X there are 98 in X, 1 in Y, 99 in the pair that is left, and the cut and fail.
	tried := "not(eq(f(X, X), f(" + a(98) + ", Y)))"
	wantReplies(t, x, tried+".", "No")
	wantReplies(t, x, tried+", v(a), v(a), v(a).", "No")
	wantReplies(t, x, tried+", v(Z).", "Big")
	wantReplies(t, x, tried+", v(_Z).", "No")
	wantReplies(t, x, "not(eq(f(X, X), f("+a(99)+", Y))).", "Big")
}
