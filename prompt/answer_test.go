package prompt_test

import (
	"strconv"
	"strings"
	"testing"
)

func TestP12Text(t *testing.T) {
	x := holding(t, "p(a). one(1, -1, 0, 999999999). any(_, _). f(X, Y, f(X, g(Y, X), h)). long(abcdefghijkl(Abcdefghijkl)).")
	for _, c := range []struct{ question, text string }{
		{"true.", "yes"}, {"p(a).", "yes"}, {"p(_).", "yes"}, {"p(_X).", "yes"}, {"p(_), p(_Y1), any(_Y1, _).", "yes"},
		{"p(X).", "X = a"}, {"p(Xyz_1).", "Xyz_1 = a"}, {"p(Abcdefghijkl).", "Abcdefghijkl = a"},
		{"one(A, B, C, D).", "A = 1, B = -1, C = 0, D = 999999999"}, {"eq(X, -999999999).", "X = -999999999"}, {"eq(X, -007).", "X = -7"},
		// By where they first stand in the question, not by their letters.
		{"eq(Z, Y), eq(Y, 1), eq(A, Z).", "Z = 1, Y = 1, A = 1"}, {"eq(f(B, A), f(1, 2)).", "B = 1, A = 2"}, {"any(B, _), any(_C, A), any(A, B).", "B = _1, A = _2"},
		// Variables by where they first stand in the answer.
		{"eq(X, X).", "X = _1"}, {"any(X, Y).", "X = _1, Y = _2"}, {"any(X, Y), eq(Z, f(Y, X)).", "X = _1, Y = _2, Z = f(_2,_1)"}, {"eq(X, f(A, _, A, _)).", "X = f(_1,_2,_1,_3), A = _1"}, {"eq(_X, f(_Y)), eq(Z, _X).", "Z = f(_1)"}, {"any(_, X), any(Y, _), eq(Z, g(Y, X)).", "X = _1, Y = _2, Z = g(_2,_1)"}, {"f(A, B, C).", "A = _1, B = _2, C = f(_1,g(_2,_1),h)"}, {"f(B, A, C), eq(A, B).", "B = _1, A = _1, C = f(_1,g(_1,_1),h)"},
		// No blanks within a term.
		{"eq(X, f( a , g ( b,c ) , 3 , h )).", "X = f(a,g(b,c),3,h)"}, {"long(X).", "X = abcdefghijkl(_1)"}, {"eq(X, f(f(f(f(1))))).", "X = f(f(f(f(1))))"},
	} {
		wantReplies(t, x, c.question, c.text)
	}
}

// An answer may have more variables than a text.
func TestP12ManyVariables(t *testing.T) {
	x := holding(t, "four(f(_, _, _, _)). some(f(A, B, C, D)) :- four(A), four(B), four(C), four(D). many(f(A, B, C, D)) :- some(A), some(B), some(C), some(D).")
	var texts []string
	for i := 1; i <= 64; i++ {
		texts = append(texts, "_"+strconv.Itoa(i))
	}
	for len(texts) > 1 {
		texts = append(texts[4:], "f("+strings.Join(texts[:4], ",")+")")
	}
	wantReplies(t, x, "many(X).", "X = "+texts[0], "No")
}
