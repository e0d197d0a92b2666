package prompt_test

import (
	"strconv"
	"strings"
	"testing"

	"prompt/api"
)

func TestP8Order(t *testing.T) {
	x := holding(t, "p(a). p(b). q(1). q(2). q(3). r(X, Y) :- p(X), q(Y). r(c, 4).")
	// The latest choice is taken up first.
	wantReplies(t, x, "p(X), q(Y).", "X = a, Y = 1", "X = a, Y = 2", "X = a, Y = 3", "X = b, Y = 1", "X = b, Y = 2", "X = b, Y = 3", "No", "Idle")
	wantReplies(t, x, "q(Y), p(X).", "Y = 1, X = a", "Y = 1, X = b", "Y = 2, X = a", "Y = 2, X = b", "Y = 3, X = a", "Y = 3, X = b", "No")
	// A clause's goals come ahead of the goals behind.
	wantReplies(t, x, "r(X, Y), eq(Y, 2).", "X = a, Y = 2", "X = b, Y = 2", "No")
	wantReplies(t, x, "r(X, 3).", "X = a", "X = b", "No")
	wantReplies(t, x, "r(X, 4).", "X = c", "No")
	wantReplies(t, x, "r(b, Y).", "Y = 1", "Y = 2", "Y = 3", "No")
	// Goals are taken from the first on: what stands behind one that ends the question is never seen.
	wantReplies(t, x, "fail, none.", "No")
	wantReplies(t, x, "none, fail.", "Unknown")
	wantReplies(t, x, "p(c), none.", "No")
	wantReplies(t, x, "eq(X, f(X)), none.", "Cyclic")
	wantReplies(t, x, "none, eq(X, f(X)).", "Unknown")
}

// What a choice that is taken up again has, has not been touched since.
func TestP8Untouched(t *testing.T) {
	x := holding(t, "p(1). p(2). p(3). bind(X, X). some(_). some(a). some(f(Y, Y)). some(Y) :- bind(Y, b).")
	wantReplies(t, x, "p(X), eq(Y, f(X, Z)), eq(Z, X).", "X = 1, Y = f(1,1), Z = 1", "X = 2, Y = f(2,2), Z = 2", "X = 3, Y = f(3,3), Z = 3", "No")
	wantReplies(t, x, "some(X), bind(X, Y).", "X = _1, Y = _1", "X = a, Y = a", "X = f(_1,_1), Y = f(_1,_1)", "X = b, Y = b", "No")
	wantReplies(t, x, "eq(X, g(Y, Z)), some(Y), bind(Z, Y).", "X = g(_1,_1), Y = _1, Z = _1", "X = g(a,a), Y = a, Z = a", "X = g(f(_1,_1),f(_1,_1)), Y = f(_1,_1), Z = f(_1,_1)", "X = g(b,b), Y = b, Z = b", "No")
}

func TestP8Limit(t *testing.T) {
	const clauses = "p(a). p(b). q(X) :- p(X), true. loop :- loop."
	for _, c := range []struct {
		limit    int
		question string
		words    []string
	}{
		{1, "true.", []string{"yes", "No", "Idle"}},
		{1, "true, true.", []string{"Limit", "Idle"}},
		{2, "true, true.", []string{"yes", "No"}},
		{2, "true, true, true.", []string{"Limit"}},
		{1, "p(X).", []string{"X = a", "X = b", "No"}},
		{1, "p(X), p(Y).", []string{"Limit"}},
		{2, "p(X), p(Y).", []string{"X = a, Y = a", "X = a, Y = b", "X = b, Y = a", "X = b, Y = b", "No"}},
		// A goal of a body is a step too, and each call has all its steps.
		{2, "q(X).", []string{"Limit"}},
		{3, "q(X).", []string{"X = a", "X = b", "No"}},
		{3, "q(X), true.", []string{"Limit"}},
		{4, "q(X), true.", []string{"X = a", "X = b", "No"}},
		// So is a goal that fails; to take up a choice is none.
		{1, "fail.", []string{"No"}},
		{2, "p(X), fail.", []string{"Limit"}},
		{3, "p(X), fail.", []string{"No"}},
		{2, "p(X), eq(X, b).", []string{"Limit"}},
		{3, "p(X), eq(X, b).", []string{"X = b", "No"}},
		{2, "p(X), p(c).", []string{"Limit"}},
		{3, "p(X), p(c).", []string{"No"}},
		// The limit is looked at ahead of the goal.
		{1, "true, none.", []string{"Limit"}},
		{2, "true, none.", []string{"Unknown"}},
		{1, "true, eq(X, f(X)).", []string{"Limit"}},
		{2, "true, eq(X, f(X)).", []string{"Cyclic"}},
		{1, "loop.", []string{"Limit", "Idle"}},
		{1000, "loop.", []string{"Limit", "Idle"}},
		{1000, "true, loop, none.", []string{"Limit", "Idle"}},
	} {
		x := limited(t, c.limit, clauses)
		wantReplies(t, x, c.question, c.words...)
		wantReplies(t, x, c.question, c.words...)
	}
}

// A question that takes just as many steps as there may be at all.
func TestP8MaxSteps(t *testing.T) {
	const eight = "%,%,%,%,%,%,%,%."
	texts := []string{
		"c :- " + strings.ReplaceAll(eight, "%", "true"), // 9 steps
		"b :- " + strings.ReplaceAll(eight, "%", "c"),    // 73
		"a :- " + strings.ReplaceAll(eight, "%", "b"),    // 585
		"e :- c, c, c, c, c, true, true, true.",          // 49
		"p. p :- e. p :- b, b, b. p.",
	}
	const question = "a, b, b, b, b, b, e, true."
	wantReplies(t, limited(t, api.MaxSteps, texts...), question, "yes", "No", "Idle")
	wantReplies(t, limited(t, api.MaxSteps-1, texts...), question, "Limit", "Idle")
	wantReplies(t, limited(t, api.MaxSteps, texts...), "a, b, b, b, b, b, e, p.", "yes", "yes", "yes", "yes", "No")
	for _, c := range []struct {
		limit int
		words []string
	}{{1, []string{"yes", "Limit"}}, {48, []string{"yes", "Limit"}}, {49, []string{"yes", "yes", "Limit"}}, {218, []string{"yes", "yes", "Limit"}}, {219, []string{"yes", "yes", "yes", "yes", "No"}}} {
		wantReplies(t, limited(t, c.limit, texts...), "p.", c.words...)
	}
}

// The greatest question's goals and terms are not yet too big.
func TestP8GreatestQuestion(t *testing.T) {
	text := ""
	for i := 0; i < 8; i++ {
		text += ",p(X" + strings.Repeat(",f(1,1,1", 4) + ",1" + strings.Repeat(")", 4) + ")"
	}
	text = text[1:] + "."
	if len(text) > api.MaxText {
		t.Fatalf("a text of %d bytes", len(text))
	}
	x := holding(t, "p(_, _).")
	wantReplies(t, x, text, "X = _1", "No")
}

func TestP9TrueFailEq(t *testing.T) {
	x := holding(t, "p(a). p(b). t(X) :- true, p(X), true. f(X) :- p(X), fail. f(c). e(X, Y) :- eq(X, f(Y)).")
	wantReplies(t, x, "true.", "yes", "No", "Idle")
	wantReplies(t, x, "fail.", "No", "Idle")
	wantReplies(t, x, "true, true, p(X), true.", "X = a", "X = b", "No")
	wantReplies(t, x, "p(X), fail.", "No")
	wantReplies(t, x, "t(X).", "X = a", "X = b", "No")
	wantReplies(t, x, "f(X).", "X = c", "No")
	wantReplies(t, x, "eq(X, a), p(X).", "X = a", "No")
	wantReplies(t, x, "p(X), eq(X, b).", "X = b", "No")
	wantReplies(t, x, "p(X), p(Y), eq(X, Y).", "X = a, Y = a", "X = b, Y = b", "No")
	wantReplies(t, x, "e(X, a).", "X = f(a)", "No")
	wantReplies(t, x, "e(f(X), Y).", "X = _1, Y = _1", "No")
	wantReplies(t, x, "e(X, X).", "Cyclic", "Idle")
	// Other numbers of arguments are other predicates.
	wantReplies(t, x, "true(a).", "Unknown")
	wantReplies(t, x, "fail(a).", "Unknown")
	wantReplies(t, x, "eq(a).", "Unknown")
	wantReplies(t, x, "eq.", "Unknown")
	wantReplies(t, x, "eq(a, a, a).", "Unknown")
	y := holding(t, "true(X) :- eq(X). fail(a). eq(b). eq(c, c, c).")
	wantReplies(t, y, "true(X), fail(Y), eq(Z, Z, Z).", "X = b, Y = a, Z = c", "No")
}

func TestP10Unknown(t *testing.T) {
	x := holding(t, "p(a). p(b, c). q :- none(a). r(a) :- s(a). r(b).")
	wantReplies(t, x, "p(b).", "No", "Idle")
	wantReplies(t, x, "p.", "Unknown", "Idle")
	wantReplies(t, x, "p(a, b, c).", "Unknown")
	wantReplies(t, x, "p(a, b).", "No")
	wantReplies(t, x, "pp(a).", "Unknown")
	wantReplies(t, x, "a.", "Unknown")
	wantReplies(t, x, "q.", "Unknown")
	wantReplies(t, x, "q(a).", "Unknown")
	// It ends the question: no choice is taken up.
	wantReplies(t, x, "r(X).", "Unknown", "Idle")
	wantReplies(t, x, "r(b).", "yes", "No")
	wantReplies(t, begun(t), "p(a).", "Unknown", "Idle")
}

func TestP10Matching(t *testing.T) {
	x := holding(t, "p(a, 1). p(X, 2) :- q(X). p(b, 3). p(f(Y), 4) :- q(Y). p(Y, Y). q(a). q(b).")
	wantReplies(t, x, "p(a, N).", "N = 1", "N = 2", "N = a", "No")
	wantReplies(t, x, "p(b, N).", "N = 2", "N = 3", "N = b", "No")
	wantReplies(t, x, "p(f(a), N).", "N = 4", "N = f(a)", "No")
	wantReplies(t, x, "p(f(X), 4).", "X = a", "X = b", "No")
	wantReplies(t, x, "p(c, N).", "N = c", "No")
	wantReplies(t, x, "p(1, 1).", "yes", "No")
	wantReplies(t, x, "p(M, N).", "M = a, N = 1", "M = a, N = 2", "M = b, N = 2", "M = b, N = 3", "M = f(a), N = 4", "M = f(b), N = 4", "M = _1, N = _1", "No")
}

// A clause's variables are its own each time that it is used.
func TestP10OwnVariables(t *testing.T) {
	x := holding(t, "pair(X, Y, f(X, Y)). both(X, Y) :- pair(X, Z, Y), pair(Z, X, _). same(X, X). any(_, _). len(nil, z). len(c(_, X), s(Y)) :- len(X, Y).")
	wantReplies(t, x, "pair(Y, X, Z).", "Y = _1, X = _2, Z = f(_1,_2)", "No")
	wantReplies(t, x, "pair(X, X, X).", "Cyclic")
	wantReplies(t, x, "pair(X, Y, A), pair(Y, X, B).", "X = _1, Y = _2, A = f(_1,_2), B = f(_2,_1)")
	wantReplies(t, x, "both(A, B).", "A = _1, B = f(_1,_2)")
	wantReplies(t, x, "both(X, f(Y, Z)).", "X = _1, Y = _1, Z = _2")
	wantReplies(t, x, "same(X, Y), same(Z, W).", "X = _1, Y = _1, Z = _2, W = _2")
	wantReplies(t, x, "any(X, Y), any(Y, Z).", "X = _1, Y = _2, Z = _3")
	wantReplies(t, x, "len(X, s(s(s(z)))).", "X = c(_1,c(_2,c(_3,nil)))", "No")
	wantReplies(t, x, "len(X, N).", "X = nil, N = z", "X = c(_1,nil), N = s(z)", "X = c(_1,c(_2,nil)), N = s(s(z))")
}

// choosing is clauses with which eight leaves eight choices, and d one.
const choosing = "d(0). d(1). eight :- d(_), d(_), d(_), d(_), d(_), d(_), d(_), d(_). one(0). two(0). two(1). three(0). three(1). three(2). "

func TestP10Deep(t *testing.T) {
	x := holding(t, choosing)
	wantReplies(t, x, "eight, eight, d(_), d(_), d(_), d(X).", "X = 0", "X = 1", "X = 0", "X = 1")
	wantReplies(t, x, "eight, eight, d(_), d(_), d(_), d(_), d(_).", "Deep", "Idle")
	wantReplies(t, x, "eight, eight, d(_), d(_), d(_), d(_), one(_).", "yes")
	// Clauses that do not match make no choice.
	wantReplies(t, x, "eight, eight, d(_), d(_), d(_), d(_), d(1), two(0).", "yes")
	wantReplies(t, x, "eight, eight, d(_), d(_), d(_), d(_), true, eq(X, 1).", "X = 1", "X = 1")
	wantReplies(t, x, "eight, eight, d(_), d(_), d(_), d(_), none.", "Unknown")
	wantReplies(t, x, "eight, eight, d(_), d(_), d(_), d(_), eq(X, f(X)).", "Cyclic")
	// A choice that has more than one clause left is still one; with its last clause it is gone.
	wantReplies(t, x, "eight, eight, d(_), d(_), d(_), three(X).", "X = 0", "X = 1", "X = 2", "X = 0")
	wantReplies(t, x, "eight, eight, d(_), d(_), d(_), three(X), three(Y).", "Deep")
	wantReplies(t, x, "eight, eight, d(_), d(_), d(_), d(X), eq(X, 1), d(Y).", "X = 1, Y = 0", "X = 1, Y = 1", "X = 1, Y = 0")
	wantReplies(t, x, "eight, eight, d(_), d(_), d(_), three(X), eq(X, 1), d(Y).", "Deep")
	wantReplies(t, x, "eight, eight, d(_), d(_), d(_), three(X), eq(X, 2), d(Y).", "X = 2, Y = 0", "X = 2, Y = 1")
	y := limited(t, api.MaxSteps, choosing, "more :- d(_), more. less1 :- d(X), eq(X, 1), less1.")
	wantReplies(t, y, "more.", "Deep", "Idle")
	wantReplies(t, y, "less1.", "Limit", "Idle")
}

// Choices that are used up make room, however many answers there are.
func TestP10ManyAnswers(t *testing.T) {
	x := holding(t, "d(0). d(1). many(X) :- d(X). many(X) :- many(X).")
	got := x.Ask("many(X).")
	for i := 0; i < 3000; i++ {
		if want := expected("X = " + strconv.Itoa(i%2)); got != want {
			t.Fatalf("answer %d: %+v, want %+v", i, got, want)
		}
		got = x.More()
	}
}

// A clause matches too, if what comes of it is Cyclic or Big: then its use ends the question.
func TestP10EndsByUse(t *testing.T) {
	x := holding(t, "c(a, a). c(X, f(X)). c(b, b). k(X, f(X)). k(a, a). l(X, f(X)) :- none. m(X, f(X), a). m(a, a, b). ")
	wantReplies(t, x, "c(Y, Y).", "Y = a", "Cyclic", "Idle")
	wantReplies(t, x, "c(b, b).", "yes", "No")
	wantReplies(t, x, "k(Y, Y).", "Cyclic", "Idle")
	wantReplies(t, x, "k(a, Y).", "Y = f(a)", "Y = a", "No")
	wantReplies(t, x, "l(Y, Y).", "Cyclic", "Idle")
	wantReplies(t, x, "m(Y, Y, b).", "Cyclic", "Idle")
	wantReplies(t, x, "m(a, Y, b).", "Y = a", "No")
	y := holding(t, choosing, "k(X, f(X)). k(a, a). l(X, f(X)). l(b, c).")
	wantReplies(t, y, "eight, eight, d(_), d(_), d(_), d(_), k(Y, Y).", "Deep", "Idle")
	wantReplies(t, y, "eight, eight, d(_), d(_), d(_), d(_), l(Y, Y).", "Cyclic", "Idle")
}

// chain is a term of so many parts: s(s(..leaf..)).
func chain(parts int, leaf string) string {
	return strings.Repeat("s(", parts-1) + leaf + strings.Repeat(")", parts-1)
}

func a(parts int) string { return chain(parts, "a") }

// A clause's body, the goals behind and the terms are all counted, when the clause is used.
func TestP10Big(t *testing.T) {
	// With a term of 13 parts for X the body has 189.
	const body = "u(X, X), u(X, X), u(X, X), u(X, X), u(X, X), u(X, X), u(X, X)"
	x := holding(t, "u(_, _). v(_). w(X) :- "+body+".", "y(_). y(X) :- "+body+". y(_).", "first(X, a) :- "+body+". second(a, X) :- "+body+".", "z(X, a) :- "+body+". z(_, b). z(_, b).", choosing)
	wantReplies(t, x, "w("+a(13)+"), v("+a(10)+").", "yes", "No")
	wantReplies(t, x, "w("+a(13)+"), v("+a(11)+").", "Big", "Idle")
	wantReplies(t, x, "w("+a(14)+").", "Big")
	wantReplies(t, x, "w("+a(13)+"), v("+chain(9, "Y")+").", "Y = _1", "No")
	wantReplies(t, x, "w("+a(13)+"), v("+chain(10, "Y")+").", "Big")
	wantReplies(t, x, "w("+a(13)+"), v("+chain(10, "_Y")+").", "yes", "No")
	wantReplies(t, x, "v("+a(50)+"), v("+a(50)+"), w("+a(13)+").", "yes", "No")
	// Another clause's body is not counted.
	wantReplies(t, x, "y("+a(13)+"), v("+a(10)+").", "yes", "yes", "yes", "No")
	wantReplies(t, x, "y("+a(13)+"), v("+a(11)+").", "yes", "Big", "Idle")
	// What comes first by the order of the pairs is the outcome.
	wantReplies(t, x, "first("+a(13)+", b), v("+a(9)+").", "Big", "Idle")
	wantReplies(t, x, "first("+a(13)+", b), v("+a(8)+").", "No")
	wantReplies(t, x, "second(b, "+a(20)+").", "No")
	wantReplies(t, x, "second(a, "+a(20)+").", "Big")
	// A clause of which Big would come is one that matches.
	wantReplies(t, x, "z("+a(13)+", b), v("+a(9)+").", "Big", "Idle")
	wantReplies(t, x, "z("+a(13)+", b), v("+a(8)+").", "yes", "yes", "No")
	wantReplies(t, x, "eight, eight, d(_), d(_), d(_), d(_), y("+a(14)+").", "Deep", "Idle")
	wantReplies(t, x, "eight, eight, d(_), d(_), d(_), d(_), w("+a(14)+").", "Big", "Idle")
}
