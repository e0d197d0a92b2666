package prompt_test

import (
	"strings"
	"testing"

	"prompt/api"
)

func TestP11Equal(t *testing.T) {
	x := begun(t)
	for _, c := range []struct{ question, word string }{
		// The same.
		{"eq(a, a).", "yes"}, {"eq(7, 007).", "yes"}, {"eq(0, -0).", "yes"}, {"eq(f(a, g(1)), f(a, g(1))).", "yes"}, {"eq(X, X).", "X = _1"}, {"eq(f(X), f(X)).", "X = _1"}, {"eq(f(X, Y), f(X, Y)).", "X = _1, Y = _2"}, {"eq(_X, _X).", "yes"},
		// A variable on one side, or on both.
		{"eq(X, a).", "X = a"}, {"eq(a, X).", "X = a"}, {"eq(X, -7).", "X = -7"}, {"eq(f(a), X).", "X = f(a)"}, {"eq(X, Y).", "X = _1, Y = _1"}, {"eq(_, X).", "X = _1"}, {"eq(_, _).", "yes"}, {"eq(X, f(Y, Y)).", "X = f(_1,_1), Y = _1"},
		// Compounds, argument by argument.
		{"eq(f(X, b), f(a, Y)).", "X = a, Y = b"}, {"eq(f(X, Y, Z, W), f(1, 2, 3, 4)).", "X = 1, Y = 2, Z = 3, W = 4"}, {"eq(f(g(X), Y), f(g(a), h(b))).", "X = a, Y = h(b)"}, {"eq(f(X, X), f(a, Y)).", "X = a, Y = a"}, {"eq(f(X, X), f(Y, a)).", "X = a, Y = a"}, {"eq(f(X, Y), f(Y, a)).", "X = a, Y = a"}, {"eq(f(X, Y, X), f(Y, Z, a)).", "X = a, Y = a, Z = a"}, {"eq(f(X, g(X)), f(g(Y), g(g(a)))).", "X = g(a), Y = a"}, {"eq(f(g(X, Y), X), f(Z, b)).", "X = b, Y = _1, Z = g(b,_1)"}, {"eq(f(X, f(Y, f(Z, a))), f(f(Y, f(Z, a)), X)).", "X = f(_1,f(_2,a)), Y = _1, Z = _2"},
		{"eq(f(g(a, X), Y), f(g(Y, b), Z)).", "X = b, Y = a, Z = a"},
		// What fails.
		{"eq(a, b).", "No"}, {"eq(a, 1).", "No"}, {"eq(1, a).", "No"}, {"eq(1, 2).", "No"}, {"eq(1, -1).", "No"}, {"eq(0, a).", "No"}, {"eq(f, f(a)).", "No"}, {"eq(f(a), f).", "No"}, {"eq(f(a), 1).", "No"}, {"eq(1, f(a)).", "No"}, {"eq(f(a), g(a)).", "No"}, {"eq(f(a), f(a, a)).", "No"}, {"eq(f(a, b), f(a, c)).", "No"}, {"eq(f(a, b), f(c, b)).", "No"}, {"eq(f(X, X), f(a, b)).", "No"}, {"eq(f(X, Y, X), f(Y, a, b)).", "No"}, {"eq(f(g(X), X), f(Y, a, b)).", "No"}, {"eq(f(X, g(a)), f(a, g(b))).", "No"}, {"eq(f(a, f(b)), f(a, f(g))).", "No"},
		// Cyclic.
		{"eq(X, f(X)).", "Cyclic"}, {"eq(f(X), X).", "Cyclic"}, {"eq(X, f(a, g(b, X))).", "Cyclic"}, {"eq(f(X, Y), f(g(Y), g(X))).", "Cyclic"}, {"eq(f(X, X), f(Y, g(Y))).", "Cyclic"}, {"eq(f(X, Y, X), f(Y, Z, g(Z))).", "Cyclic"}, {"eq(_X, f(_X)).", "Cyclic"}, {"eq(X, Y), eq(Y, f(X)).", "Cyclic"}, {"eq(X, f(Y)), eq(Y, g(X)).", "Cyclic"},
		// The first pair that is no good decides.
		{"eq(f(X, a), f(g(X), b)).", "Cyclic"}, {"eq(f(a, X), f(b, g(X))).", "No"}, {"eq(f(g(X, b), X), f(g(a, c), h(X))).", "No"}, {"eq(f(g(X, b), X), f(g(Y, b), h(Y))).", "Cyclic"}, {"eq(f(g(X, X), b), f(g(Y, h(Y)), c)).", "Cyclic"}, {"eq(f(b, g(X, X)), f(c, g(Y, h(Y)))).", "No"},
	} {
		words := []string{c.word, "No", "Idle"}
		if last := expected(c.word); last.Kind != api.Answer {
			words = []string{c.word, "Idle"}
		}
		wantReplies(t, x, c.question, words...)
	}
}

// A variable is replaced in the goals behind, in the terms and in the pairs that are left.
func TestP11Everywhere(t *testing.T) {
	x := holding(t, "p(a, 1). p(b, 2). q(f(X), X). r(X, Y, Z) :- p(X, Y), p(Z, 2), p(X, Y).")
	wantReplies(t, x, "eq(X, b), p(X, Y).", "X = b, Y = 2", "No")
	wantReplies(t, x, "eq(X, Y), eq(Z, f(X, Y)), eq(Y, b), p(X, W).", "X = b, Y = b, Z = f(b,b), W = 2", "No")
	wantReplies(t, x, "q(X, Y), q(Y, Z), eq(Z, c).", "X = f(f(c)), Y = f(c), Z = c", "No")
	wantReplies(t, x, "r(X, Y, Z).", "X = a, Y = 1, Z = b", "X = b, Y = 2, Z = b", "No")
	wantReplies(t, x, "r(b, Y, Z), eq(W, g(Y, Z)).", "Y = 2, Z = b, W = g(2,b)", "No")
	wantReplies(t, x, "eq(f(X, g(X, Y), Y), f(a, Z, W)).", "X = a, Y = _1, Z = g(a,_1), W = _1", "No")
}

func TestP11Big(t *testing.T) {
	x := holding(t, "v(_). ")
	// With 65 parts for X there are 65 in X, 1 in Y, 133 in the goal behind.
	wantReplies(t, x, "eq(X, "+a(65)+"), eq(Y, f(X, X)).", "X = "+a(65)+", Y = f("+a(65)+","+a(65)+")", "No")
	wantReplies(t, x, "eq(X, "+a(65)+"), eq(Y, f(X, X)), true.", "X = "+a(65)+", Y = f("+a(65)+","+a(65)+")", "No")
	wantReplies(t, x, "eq(X, "+a(65)+"), eq(Y, f(X, X)), true, true.", "Big", "Idle")
	wantReplies(t, x, "eq("+a(65)+", X), eq(Y, f(X, X)), true, true.", "Big", "Idle")
	wantReplies(t, x, "eq(X, "+a(66)+"), eq(Y, f(X, X)).", "Big")
	// A cut is one part.
	wantReplies(t, x, "eq(X, "+a(65)+"), eq(Y, f(X, X)), true, !.", "Big")
	// Only named variables stand among the terms.
	wantReplies(t, x, "eq(_X, "+a(65)+"), eq(Y, f(_X, _X)), v(_X).", "Y = f("+a(65)+","+a(65)+")", "No")
	wantReplies(t, x, "eq(_X, "+a(66)+"), eq(Y, f(_X, _X)), v(_X).", "Big")
	// The pair is dropped first: of its own it counts nothing.
	wantReplies(t, x, "eq(_, "+a(130)+").", "yes", "No")
	wantReplies(t, x, "eq(_, _), v("+a(120)+").", "yes", "No")
}

// Pairs that are left are counted, on both sides.
func TestP11BigPairs(t *testing.T) {
	x := begun(t)
	// With n parts for X there are n in the terms, and in the pairs 3n and 3 beside.
	question := func(n int, rest int) string {
		return "eq(f(X, g(X, X, X), Y), f(" + a(n) + ", _, " + chain(rest, "b") + "))."
	}
	replies := func(n int, rest int) string {
		return "X = " + a(n) + ", Y = " + chain(rest, "b")
	}
	// 40 for X, 1 for Y; pairs: g with 3 times 40, _, Y, and the rest.
	wantReplies(t, x, question(40, 36), replies(40, 36), "No")
	wantReplies(t, x, question(40, 37), "Big", "Idle")
	swapped := func(n int, rest int) string {
		return "eq(f(" + a(n) + ", _, " + chain(rest, "b") + "), f(X, g(X, X, X), Y))."
	}
	wantReplies(t, x, swapped(40, 36), replies(40, 36), "No")
	wantReplies(t, x, swapped(40, 37), "Big", "Idle")
}

// Nothing is counted where no variable is replaced, however much there is to be met.
func TestP11BigNowhere(t *testing.T) {
	great := "h(" + a(120) + ")"
	x := holding(t, great+".", "l1 :- l2, "+great+".", "l2 :- l3, "+great+".", "l3 :- true.", "m1 :- m2, "+great+".", "m2 :- m3(a), "+great+".", "m3(a).", "n1 :- n2, "+great+".", "n2 :- n3(a), "+great+".", "n3(_).")
	wantReplies(t, x, "l1.", "yes", "No")
	wantReplies(t, x, "m1.", "yes", "No")
	wantReplies(t, x, "n1.", "Big", "Idle")
	wantReplies(t, x, "l1, eq(X, a).", "X = a", "No")
	wantReplies(t, x, "l2, eq(X, X), eq(X, Y).", "X = _1, Y = _1", "No")
	wantReplies(t, x, strings.Repeat("l1, ", 7)+"l1.", "yes", "No")
}
