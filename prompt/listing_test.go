package prompt_test

import (
	"math/rand"
	"strconv"
	"strings"
	"testing"

	"prompt/api"
)

func TestP6Listing(t *testing.T) {
	for _, c := range []struct{ text, want string }{
		{"", ""}, {" \n", ""}, {"p.", "p.\n"}, {" p\n. q .", "p.\nq.\n"}, {"q.p.q.", "q.\np.\nq.\n"}, {"p ( a , b , c , d ) .", "p(a,b,c,d).\n"},
		{"p :- q.", "p:-q.\n"}, {"p :- q , ! , r ( a ) .", "p:-q,!,r(a).\n"}, {"p:-!.", "p:-!.\n"}, {"p:-!,!.", "p:-!,!.\n"}, {"p:-true,fail,not(q),eq(a,b),less(1,2),plus(1,2,3).", "p:-true,fail,not(q),eq(a,b),less(1,2),plus(1,2,3).\n"},
		{"p(f(g(a),h(b,i(c))),d).", "p(f(g(a),h(b,i(c))),d).\n"}, {"p(f(f(f(f(a))))).", "p(f(f(f(f(a))))).\n"}, {"p(f(a),f(b)):-q(f(c)).", "p(f(a),f(b)):-q(f(c)).\n"},
		// Numbers.
		{"p(0,7,007,12).", "p(0,7,7,12).\n"}, {"p(-0,-7,-007,-12).", "p(0,-7,-7,-12).\n"}, {"p(999999999,-999999999,000000000,-000000000).", "p(999999999,-999999999,0,0).\n"}, {"p(10,100,-100,1000000).", "p(10,100,-100,1000000).\n"},
		// Variables, by where they first stand in their clause.
		{"p(X).", "p(A).\n"}, {"p(B,A).", "p(A,B).\n"}, {"p(X,Y,X).", "p(A,B,A).\n"}, {"p(Z):-q(Y,Z),r(X,Y).", "p(A):-q(B,A),r(C,B).\n"}, {"p:-q(B),r(A,B).", "p:-q(A),r(B,A).\n"}, {"p(X).q(Y,X).", "p(A).\nq(A,B).\n"}, {"p(f(X,g(Y)),Y,Z).", "p(f(A,g(B)),B,C).\n"},
		{"p(Xa,X,XA,X_).", "p(A,B,C,D).\n"}, {"p(x,X).", "p(x,A).\n"}, {"p(X1,X2,X1).", "p(A,B,A).\n"},
		{"p(_,_).", "p(A,B).\n"}, {"p(_,X,_,X).", "p(A,B,C,B).\n"}, {"p(_a,_a,_b).", "p(A,A,B).\n"}, {"p(__,__,_).", "p(A,A,B).\n"}, {"p(_):-q(_),r(_).", "p(A):-q(B),r(C).\n"},
		{"p(Q,R,S,T):-q(U,V,W,X),q(Y,Z,A,B),q(_,_,_,C),q(C,Q).", "p(A,B,C,D):-q(E,F,G,H),q(I,J,K,L),q(M,N,O,P),q(P,A).\n"},
		{"p:-a,b,c,d,e,f,g,h.", "p:-a,b,c,d,e,f,g,h.\n"}, {"aB_9zZ(cD_0).", "aB_9zZ(cD_0).\n"},
	} {
		wantListing(t, holding(t, c.text), c.want)
	}
}

func TestP6Example(t *testing.T) {
	x := holding(t, "edge(a, b). edge(b, c). edge(a, d).\npath(X, Y) :- edge(X, Y).\npath(X, Y) :- edge(X, Z), path(Z, Y).\nfirst(X) :- edge(X, _), !.\nadd(z, Y, Y). add(s(X), Y, s(Z)) :- add(X, Y, Z).\n")
	wantListing(t, x, "edge(a,b).\nedge(b,c).\nedge(a,d).\npath(A,B):-edge(A,B).\npath(A,B):-edge(A,C),path(C,B).\nfirst(A):-edge(A,B),!.\nadd(z,A,A).\nadd(s(A),B,s(C)):-add(A,B,C).\n")
	wantListing(t, x, x.Listing())
}

// wantSameAgain consults what is listed line by line.
func wantSameAgain(t *testing.T, listing string) {
	t.Helper()
	again := begun(t)
	for _, line := range strings.Split(strings.TrimSuffix(listing, "\n"), "\n") {
		if code, place := again.Consult(line); code != api.OK || place != 0 {
			t.Errorf("Consult(%q) = %d, %d, of a line that was listed", line, code, place)
		}
	}
	wantListing(t, again, listing)
}

// anyTerm makes a term's text that can be read, with blanks or not, at most so many compounds deep.
func anyTerm(r *rand.Rand, deep int) string {
	switch r.Intn(5) {
	case 0:
		return []string{"X", "Y", "_", "_x", "Z9"}[r.Intn(5)]
	case 1:
		return strconv.Itoa(r.Intn(2*api.MaxNumber+1) - api.MaxNumber)
	case 2:
		return []string{"00", "-0", "-01", "007"}[r.Intn(4)]
	}
	return anyNamed(r, deep)
}

func anyNamed(r *rand.Rand, deep int) string {
	name := []string{"p", "q", "aB_1", "r"}[r.Intn(4)]
	args := r.Intn(api.MaxArgs + 1)
	if deep == 0 || args == 0 {
		return name
	}
	text := name + " ("
	for i := 0; i < args; i++ {
		if i > 0 {
			text += ", "
		}
		text += anyTerm(r, deep-1)
	}
	return text + "\n)"
}

// anyGoal makes the text of a goal: a cut, one that is built in, or one that clauses may be for.
func anyGoal(r *rand.Rand, deep int) string {
	switch r.Intn(12) {
	case 0, 1:
		return "!"
	case 2:
		return "not(" + anyNamed(r, deep) + ")"
	case 3:
		return "not (" + anyTerm(r, deep) + ")"
	case 4:
		return "less(" + anyTerm(r, 0) + "," + anyTerm(r, 0) + ")"
	case 5:
		return "plus(" + anyTerm(r, 0) + ", " + anyTerm(r, 0) + " ," + anyTerm(r, deep) + ")"
	}
	return anyNamed(r, deep)
}

func anyClause(r *rand.Rand) string {
	text := anyNamed(r, 2)
	for i := r.Intn(4); i > 0; i-- {
		between := ","
		if !strings.Contains(text, ":-") {
			between = " :- "
		}
		text += between + anyGoal(r, 2)
	}
	return text + " . "
}

func TestP6SameAgain(t *testing.T) {
	r := rand.New(rand.NewSource(2))
	for i := 0; i < 300; i++ {
		x := begun(t)
		added := 0
		for j := 0; j < 10; j++ {
			if code, _ := x.Consult(anyClause(r)); code == api.OK {
				added++
			}
		}
		if added == 0 {
			continue
		}
		listing := x.Listing()
		if strings.Count(listing, "\n") != added || strings.Contains(listing, " ") {
			t.Fatalf("%d clauses are listed as %q", added, listing)
		}
		wantSameAgain(t, listing)
	}
}

// The longest clauses can be listed, and can be consulted as they were listed.
func TestP6LongestLine(t *testing.T) {
	four := "(" + strings.Repeat(name12+",", 3) + name12 + ")"
	line := name12 + four + ":-" + strings.Repeat(name12+four+",", 4) + name12 + "(" + name12 + ",aa)" + strings.Repeat(","+name12, 3) + "."
	if len(line) != api.MaxText {
		t.Fatalf("a line of %d bytes is no edge", len(line))
	}
	x := holding(t, line)
	for i := 1; i < api.MaxClauses; i++ {
		x.Consult(line)
	}
	wantListing(t, x, strings.Repeat(line+"\n", api.MaxClauses))
	wantSameAgain(t, x.Listing())
}
