package prompt_test

import (
	"strings"
	"testing"

	"prompt/api"
	"prompt/prompt"
)

// limited is a session with a limit of steps that has consulted texts which are all right.
func limited(t *testing.T, limit int, texts ...string) *prompt.Session {
	t.Helper()
	x, code := prompt.New(limit)
	if x == nil || code != api.OK {
		t.Fatalf("New(%d): %v, %d", limit, x, code)
	}
	for _, text := range texts {
		if code, place := x.Consult(text); code != api.OK || place != 0 {
			t.Fatalf("Consult(%q) = %d, %d, want OK and 0", text, code, place)
		}
	}
	return x
}

// expected is the reply that a word stands for: one that ends a question by its kind's name, an answer by its text.
func expected(word string) api.Reply {
	switch word {
	case "No":
		return api.Reply{Kind: api.No}
	case "Idle":
		return api.Reply{Kind: api.Idle}
	case "Limit":
		return api.Reply{Kind: api.Limit}
	case "Deep":
		return api.Reply{Kind: api.Deep}
	case "Big":
		return api.Reply{Kind: api.Big}
	case "Cyclic":
		return api.Reply{Kind: api.Cyclic}
	case "Unbound":
		return api.Reply{Kind: api.Unbound}
	case "Mistyped":
		return api.Reply{Kind: api.Mistyped}
	case "Range":
		return api.Reply{Kind: api.Range}
	case "Unknown":
		return api.Reply{Kind: api.Unknown}
	}
	return api.Reply{Kind: api.Answer, Text: word}
}

func wantMore(t *testing.T, x *prompt.Session, words ...string) {
	t.Helper()
	for i, word := range words {
		if got := x.More(); got != expected(word) {
			t.Fatalf("More() number %d = %+v, want %s", i+1, got, word)
		}
	}
}

// wantReplies asks a question and, for each reply behind the first, More.
func wantReplies(t *testing.T, x *prompt.Session, question string, words ...string) {
	t.Helper()
	got := x.Ask(question)
	for i, word := range words {
		if i > 0 {
			got = x.More()
		}
		if got != expected(word) {
			t.Errorf("%.200s reply %d: %+v, want %s", question, i, got, word)
			return
		}
	}
}

const edges = "edge(a, b). edge(b, c). edge(a, d). path(X, Y) :- edge(X, Y). path(X, Y) :- edge(X, Z), path(Z, Y)."

func TestP7Examples(t *testing.T) {
	x := holding(t, edges, "first(X) :- edge(X, _), !.", "add(z, Y, Y). add(s(X), Y, s(Z)) :- add(X, Y, Z).")
	wantReplies(t, x, "edge(a, X).", "X = b", "X = d", "No", "Idle")
	wantReplies(t, x, "path(a, X).", "X = b", "X = d", "X = c", "No", "Idle")
	wantReplies(t, x, "first(X).", "X = a", "No")
	wantReplies(t, x, "add(X, Y, s(z)).", "X = z, Y = s(z)", "X = s(z), Y = z", "No")
	wantReplies(t, x, "add(s(P), _, Q).", "P = z, Q = s(_1)")
	wantReplies(t, x, "not(edge(c, _)).", "yes", "No")
	wantReplies(t, x, "not(not(edge(a, X))).", "X = _1")
	wantReplies(t, x, "plus(1, 2, X), less(X, 4).", "X = 3")
	wantReplies(t, x, "eq(X, f(X)).", "Cyclic")
	wantReplies(t, x, "less(X, 1).", "Unbound")
	wantReplies(t, x, "less(a, 1).", "Mistyped")
	wantReplies(t, x, "plus(999999999, 1, X).", "Range")
	wantReplies(t, x, "none.", "Unknown")
	wantReplies(t, x, "eq(X, Y), eq(Z, g(Y, X)).", "X = _1, Y = _1, Z = g(_1,_1)")
	if code, _ := x.Consult("loop :- loop."); code != api.OK {
		t.Fatal(code)
	}
	wantReplies(t, x, "loop.", "Limit")
	wantBad(t, x, []reading{{"edge(a X).", api.ErrSyntax, 7}, {"edge(a, X)", api.ErrSyntax, 10}, {"X.", api.ErrGoal, 0}, {"p(1234567890).", api.ErrMany, 2}})
}

func TestP7NoQuestion(t *testing.T) {
	x := begun(t)
	wantMore(t, x, "Idle", "Idle")
	x.Stop()
	wantMore(t, x, "Idle")
	wantReplies(t, x, "true.", "yes", "No", "Idle", "Idle")
	wantReplies(t, x, "fail.", "No", "Idle")
	x.Stop()
	x.Stop()
	wantReplies(t, x, "true.", "yes")
}

// Whatever ends a question, nothing of it is left.
func TestP7Ends(t *testing.T) {
	const clauses = "p(a). p(b). p(c). loop :- loop. deep :- p(_), deep. big(X) :- big(f(X, X))."
	ends := []struct{ question, word string }{
		{"fail.", "No"}, {"p(d).", "No"}, {"loop.", "Limit"}, {"p(_), loop.", "Limit"}, {"deep.", "Deep"}, {"big(a).", "Big"}, {"p(_), eq(X, f(X)).", "Cyclic"}, {"p(_), not(_).", "Unbound"}, {"p(_), less(a, 1).", "Mistyped"}, {"p(_), plus(999999999, 1, _).", "Range"}, {"p(_), p(_, _).", "Unknown"}, {"p(_), !, fail.", "No"}, {"not(p(_)).", "No"},
	}
	x := holding(t, clauses)
	for _, end := range ends {
		wantReplies(t, x, "p(X).", "X = a", "X = b")
		wantReplies(t, x, end.question, end.word, "Idle", "Idle")
	}
	wantReplies(t, x, "p(X).", "X = a", "X = b")
	x.Stop()
	wantMore(t, x, "Idle", "Idle")
	for _, bad := range []string{"", "p(", "p", "X.", "p(abcdefghijklm).", "true. true.", strings.Repeat(" ", 401)} {
		wantReplies(t, x, "p(X).", "X = a", "X = b")
		if got := x.Ask(bad); got.Kind != api.Bad {
			t.Errorf("Ask(%.20q) = %+v", bad, got)
		}
		wantMore(t, x, "Idle", "Idle")
	}
	wantReplies(t, x, "p(X).", "X = a", "X = b", "X = c", "No", "Idle")
}

// A question may go on to any reply, behind an answer too.
func TestP7EndsInMore(t *testing.T) {
	x := holding(t, "p. p :- loop. loop :- loop. q. q :- deep. deep :- s, deep. s. s. r. r :- big(a). big(X) :- big(f(X, X)). u. u :- eq(X, f(X)). v. v :- none. w. w :- fail.")
	wantReplies(t, x, "p.", "yes", "Limit", "Idle")
	wantReplies(t, x, "q.", "yes", "Deep", "Idle")
	wantReplies(t, x, "r.", "yes", "Big", "Idle")
	wantReplies(t, x, "u.", "yes", "Cyclic", "Idle")
	wantReplies(t, x, "v.", "yes", "Unknown", "Idle")
	wantReplies(t, x, "w.", "yes", "No", "Idle")
	y := holding(t, "p. p :- less(1, _). q. q :- not(7). r. r :- plus(-999999999, -1, _). s. s :- p, !, fail. s.")
	wantReplies(t, y, "p.", "yes", "Unbound", "Idle")
	wantReplies(t, y, "q.", "yes", "Mistyped", "Idle")
	wantReplies(t, y, "r.", "yes", "Range", "Idle")
	wantReplies(t, y, "s.", "yes", "No", "Idle")
}

// The question before is ended as soon as a new one is asked, and none comes back.
func TestP7NewQuestion(t *testing.T) {
	x := holding(t, "p(a). p(b). q(1). q(2).")
	wantReplies(t, x, "p(X).", "X = a")
	wantReplies(t, x, "q(Y).", "Y = 1", "Y = 2")
	wantReplies(t, x, "p(Z).", "Z = a", "Z = b", "No", "Idle")
	wantReplies(t, x, "p(X), q(Y).", "X = a, Y = 1")
	wantReplies(t, x, "q(X).", "X = 1", "X = 2", "No", "Idle")
}

// Playing changes no clause, and Listing ends no question.
func TestP7ListingBetween(t *testing.T) {
	x := holding(t, edges)
	listing := x.Listing()
	wantReplies(t, x, "path(a, X).", "X = b")
	for _, word := range []string{"X = d", "X = c", "No", "Idle"} {
		wantListing(t, x, listing)
		wantMore(t, x, word)
	}
	wantReplies(t, x, "none.", "Unknown")
	x.Ask("p(")
	wantListing(t, x, listing)
}

func TestP5EndsQuestion(t *testing.T) {
	for _, text := range []string{"", "q.", "p(d).", "p(", "X.", "true.", strings.Repeat("q.", 29), strings.Repeat(" ", 401)} {
		x := holding(t, "p(a). p(b). p(c).")
		wantReplies(t, x, "p(X).", "X = a")
		x.Consult(text)
		wantMore(t, x, "Idle", "Idle")
	}
	x := holding(t, "p(a). p(b).")
	wantReplies(t, x, "p(X).", "X = a")
	x.Consult("p(c).")
	wantReplies(t, x, "p(X).", "X = a", "X = b", "X = c", "No")
}

func wantBad(t *testing.T, x *prompt.Session, readings []reading) {
	t.Helper()
	for _, c := range readings {
		want := api.Reply{Kind: api.Bad, Code: c.code, Place: c.place}
		if got := x.Ask(c.text); got != want {
			t.Errorf("Ask(%.90q) = %+v, want %+v", c.text, got, want)
		}
		wantMore(t, x, "Idle")
	}
}

func TestP7Bad(t *testing.T) {
	const eight = "true,true,true,true,true,true,true,true"
	const vars = "p(A,B,C,D),p(E,F,G,H),p(I,J,K,L),p(M,N,O,P)"
	wantBad(t, holding(t, "p(a). p(b). q."), []reading{
		{strings.Repeat(" ", 401), api.ErrLong, 0}, {"q." + strings.Repeat(" ", 399), api.ErrLong, 0}, {"$" + strings.Repeat(" ", 400), api.ErrLong, 0}, {strings.Repeat("p", 100000), api.ErrLong, 0},
		{"", api.ErrSyntax, 0}, {" \n ", api.ErrSyntax, 3}, {"q", api.ErrSyntax, 1}, {"q ", api.ErrSyntax, 2}, {"q,", api.ErrSyntax, 2}, {"p(", api.ErrSyntax, 2}, {"p(X", api.ErrSyntax, 3}, {"p(X)", api.ErrSyntax, 4}, {"!", api.ErrSyntax, 1}, {eight, api.ErrSyntax, len(eight)},
		{".", api.ErrSyntax, 0}, {",q.", api.ErrSyntax, 0}, {"q,.", api.ErrSyntax, 2}, {"q,,q.", api.ErrSyntax, 2}, {"q q.", api.ErrSyntax, 2}, {"q X.", api.ErrSyntax, 2}, {":-q.", api.ErrSyntax, 0}, {"q:-q.", api.ErrSyntax, 1}, {"(q).", api.ErrSyntax, 0}, {"q).", api.ErrSyntax, 1}, {"!!.", api.ErrSyntax, 1}, {"!(q).", api.ErrSyntax, 1}, {"p(!).", api.ErrSyntax, 2}, {"p(X Y).", api.ErrSyntax, 4}, {"p().", api.ErrSyntax, 2},
		{"$", api.ErrSyntax, 0}, {"q$.", api.ErrSyntax, 1}, {"q\t.", api.ErrSyntax, 1}, {"p(-).", api.ErrSyntax, 2}, {"q:", api.ErrSyntax, 1}, {"q: -q.", api.ErrSyntax, 1}, {"p(- 1).", api.ErrSyntax, 2}, {"q.\x00", api.ErrSyntax, 2},
		// One question, and nothing behind it but blanks and newlines.
		{"q.q.", api.ErrSyntax, 2}, {"q. q", api.ErrSyntax, 3}, {"q..", api.ErrSyntax, 2}, {"q.\n X", api.ErrSyntax, 4}, {"q. 3.", api.ErrSyntax, 3}, {"q. !", api.ErrSyntax, 3}, {"q. $", api.ErrSyntax, 3}, {"q. ,q.", api.ErrSyntax, 3}, {"q. " + name13, api.ErrMany, 3}, {"q. 1234567890", api.ErrMany, 3},
		{name13 + ".", api.ErrMany, 0}, {"p(" + name13 + ").", api.ErrMany, 2}, {"p(" + var13 + ").", api.ErrMany, 2}, {var13 + ".", api.ErrMany, 0}, {"1234567890.", api.ErrMany, 0}, {"q,-1234567890.", api.ErrMany, 2}, {"q " + under, api.ErrMany, 2},
		{"p(a,b,c,d,e).", api.ErrMany, 9}, {"q,p(f(a,b,c,d,e)).", api.ErrMany, 13}, {eight + ",true.", api.ErrMany, len(eight)}, {eight + ",", api.ErrMany, len(eight)}, {eight + ",$", api.ErrMany, len(eight)}, {"!,!,!,!,!,!,!,!,!.", api.ErrMany, 15},
		{vars + ",p(Q).", api.ErrMany, 46}, {vars + ",p(_).", api.ErrMany, 46}, {vars + ",p(A,Q).", api.ErrMany, 48}, {"p(_,_,_,_),p(_,_,_,_),p(_,_,_,_),p(_,_,_,_),p(_).", api.ErrMany, 46}, {vars + ",Q.", api.ErrMany, 44}, {vars + " Q.", api.ErrSyntax, 44}, {vars + ",P.", api.ErrGoal, 44},
		{"X.", api.ErrGoal, 0}, {"_.", api.ErrGoal, 0}, {"3.", api.ErrGoal, 0}, {" -3.", api.ErrGoal, 1}, {"q,X.", api.ErrGoal, 2}, {"q, 0.", api.ErrGoal, 3}, {"X", api.ErrGoal, 0}, {"X(a).", api.ErrGoal, 0}, {"3$", api.ErrGoal, 0},
	})
}

// No question is bad at an edge that it keeps to, nor for a head that a clause could not have.
func TestP7NotBad(t *testing.T) {
	x := holding(t, "p(_). p(_, _, _, _). "+name12+".")
	const vars = "p(A,B,C,D),p(E,F,G,H),p(I,J,K,L),p(M,N,O,P)"
	const all = "A = _1, B = _2, C = _3, D = _4, E = _5, F = _6, G = _7, H = _8, I = _9, J = _10, K = _11, L = _12, M = _13, N = _14, O = _15, P = _16"
	wantReplies(t, x, vars+".", all, "No")
	wantReplies(t, x, vars+",p(A,P,B,O).", all, "No")
	wantReplies(t, x, "p(_,_,_,_),p(_,_,_,_),p(_,_,_,_),p(_,_,_,_).", "yes", "No")
	wantReplies(t, x, "true,true,true,true,true,true,true,true.", "yes", "No")
	wantReplies(t, x, name12+".", "yes")
	wantReplies(t, x, "p("+var12+").", var12+" = _1")
	wantReplies(t, x, "p(999999999),p(-999999999).", "yes")
	wantReplies(t, x, " true \n . \n ", "yes")
	wantReplies(t, x, "true."+strings.Repeat(" ", 395), "yes")
	wantReplies(t, x, strings.Repeat("\n", 395)+"true.", "yes")
	for _, built := range []string{"true.", "!.", "eq(a,a).", "not(fail).", "less(1,2).", "plus(1,2,3).", "true, eq(1,1).", "!,!,!,!,!,!,!,!."} {
		wantReplies(t, x, built, "yes", "No")
	}
}

// A question's text read to each of its bytes.
func TestP7EndsEarly(t *testing.T) {
	const whole = "p(ab, X1 ,-12), q ( f(X1),3) , true . "
	x := holding(t, "p(_, _, _). q(_, _).")
	dot := strings.Index(whole, ".")
	for n := 0; n <= len(whole); n++ {
		if n > dot {
			wantReplies(t, x, whole[:n], "X1 = _1", "No")
			continue
		}
		place := n
		if strings.HasSuffix(whole[:n], "-") {
			place = n - 1
		}
		wantBad(t, x, []reading{{whole[:n], api.ErrSyntax, place}})
	}
}
