package prompt_test

import (
	"math/rand"
	"strconv"
	"strings"
	"testing"

	"prompt/api"
	"prompt/prompt"
)

// savings are clauses and a question of them; without one no question is asked.
var savings = []struct{ clauses, question string }{
	{"", ""}, {"", "true."}, {"", "eq(X, f(Y)), eq(Z, -999999999)."}, {"p(a).", ""}, {"p(a).", "none."}, {"p(a).", "p(X"},
	{"p :- q(X), !, r(X, Y, X, 999999999), not(s(f(g(h)))). q(-999999999). abcdefghijkl(aB_9).", ""},
	{edges, "path(X, Y)."}, {edges, "path(a, X), path(X, _Y), not(path(X, a))."}, {edges, "path(_, _)."},
	{"p(a). p(b). p(c).", "p(X), p(Y), p(Z)."}, {"p(a). p(b). p(c).", "p(_), p(_)."},
	{"add(z, Y, Y). add(s(X), Y, s(Z)) :- add(X, Y, Z).", "add(X, Y, s(s(s(z))))."}, {"add(z, Y, Y). add(s(X), Y, s(Z)) :- add(X, Y, Z).", "add(A, B, C)."},
	// Cuts are still ahead in what the choices have, those of the question and of bodies.
	{three + "first(X) :- d(X), less(0, X), !. pair(X, Y) :- d(X), first(Y), d(_), !.", "d(A), pair(X, Y)."},
	{three + "q(X) :- d(X), d(Y), less(X, Y), !. q(7). two(X, Y) :- d(X), q(Y), d(_), less(0, X), !. two(8, 8).", "d(A), two(X, Y), d(B)."},
	{three, "d(X), d(Y), less(0, Y), !, d(Z)."}, {three, "d(X), d(Y), less(0, X), less(0, Y), !."},
	{three + "c(X, Y) :- d(X), e(Y), !. c(5, 5). e(1). e(2) :- !. e(3).", "d(A), c(X, Y), e(Z)."},
	// So are nots, and there were some.
	{three + "small(X) :- not(less(0, X)). odd(X) :- d(X), not(small(X)), not(not(d(_))).", "d(X), not(odd(X)), odd(Y), d(Z), not(eq(Y, Z))."},
	{three, "not(not(d(X))), d(X), not(d(7)), d(Y), not(not(eq(X, Y)))."},
	// Variables in common: of goals, of terms, and of both.
	{"v(X, X). v(X, f(X)). v(f(Y, X), g(X, Y)). v(_, _).", "v(X, Y), v(Y, Z), eq(W, h(X, Z, _Q))."},
	{"v(X, Y) :- w(X, Z), w(Y, Z), w(Z, _). w(X, X). w(f(X), X). w(_, b).", "v(X, Y), w(U, X), w(U, V)."},
	// Without an end, and with as many choices as there can be.
	{"many(0). many(X) :- many(X).", "many(X)."}, {"n(0). n(X) :- n(Y), plus(Y, -1, X).", "n(X)."}, {"b(0). b(1).", "b(A), b(B), b(C), b(D), b(E), b(F), b(G), b(H)."},
	{"b(0). b(1). b4(W, X, Y, Z) :- b(W), b(X), b(Y), b(Z).", "b4(A, B, C, D), b4(E, F, G, H), b4(I, J, K, L), b4(M, N, O, P), b4(_, _, _, _)."},
	{"p. p. p. q(A, B) :- p, p. q(A, A).", "q(_, _), q(X, X), q(Abcdefghijkl, Z_9)."},
	// What ends the question comes later.
	{"p(1). p(X) :- eq(X, f(X)).", "p(X)."}, {"p(1). p(2) :- less(X, 1).", "p(X)."}, {"p(1). p(2) :- none.", "p(X)."}, {"p(1). p(X) :- plus(999999999, 1, X).", "p(X)."}, {"p(1). p(X) :- p(f(X, X)).", "p(X)."}, {"p(1). p(2) :- p(2).", "p(X)."},
}

// resumed is a session that has asked a question and for some more answers.
func resumed(t *testing.T, limit int, clauses string, question string, answers int) *prompt.Session {
	t.Helper()
	x := limited(t, limit, clauses)
	if question != "" {
		x.Ask(question)
	}
	for i := 0; i < answers; i++ {
		x.More()
	}
	return x
}

func wantLoad(t *testing.T, x *prompt.Session, image string) {
	t.Helper()
	if code := x.Load(image); code != api.OK {
		t.Fatalf("Load = %d of an image", code)
	}
	if again := x.Save(); again != image {
		t.Fatalf("Save behind Load = %q, want %q", again, image)
	}
}

// wantAlike makes the same calls of two sessions.
func wantAlike(t *testing.T, got *prompt.Session, want *prompt.Session) {
	t.Helper()
	wantListing(t, got, want.Listing())
	for i := 0; i < 12; i++ {
		a := got.More()
		b := want.More()
		if a != b {
			t.Fatalf("More() number %d = %+v, want %+v", i+1, a, b)
		}
	}
	for _, question := range []string{"p(X).", "d(X), d(Y).", "many(X).", "edge(X"} {
		a := got.Ask(question)
		b := want.Ask(question)
		if a != b {
			t.Fatalf("Ask(%q) = %+v, want %+v", question, a, b)
		}
	}
	got.Consult("new(X, a). new(b, X) :- new(X, _).")
	want.Consult("new(X, a). new(b, X) :- new(X, _).")
	wantListing(t, got, want.Listing())
	a := got.Ask("new(X, Y).")
	b := want.Ask("new(X, Y).")
	if a != b || got.More() != want.More() || got.Save() != want.Save() {
		t.Fatalf("behind Consult: %+v, want %+v", a, b)
	}
}

func TestP13Resumed(t *testing.T) {
	const limit = 200
	for _, c := range savings {
		for answers := 0; answers < 6; answers++ {
			again := func() *prompt.Session { return resumed(t, limit, c.clauses, c.question, answers) }
			x := again()
			image := x.Save()
			fresh := limited(t, limit)
			wantLoad(t, fresh, image)
			wantAlike(t, fresh, again())
			// In the place of other clauses and of another question.
			other := resumed(t, limit, "d(7). d(8). p(X) :- d(X), !. p(9).", "d(X), p(Y).", 1)
			wantLoad(t, other, image)
			wantAlike(t, other, again())
			// Through a third session, behind calls of the one that was saved.
			third := limited(t, limit, "q.")
			wantLoad(t, third, image)
			wantAlike(t, x, again())
			last := limited(t, limit)
			wantLoad(t, last, third.Save())
			wantAlike(t, last, again())
			wantAlike(t, third, again())
			// Into itself, at once and behind more calls.
			wantLoad(t, x, image)
			wantLoad(t, x, x.Save())
			wantAlike(t, x, again())
			wantLoad(t, x, image)
			wantAlike(t, x, again())
		}
	}
}

// Sessions that have loaded the same image go their own ways from there.
func TestP13Apart(t *testing.T) {
	x := resumed(t, 100, "p(a). p(b). p(c). p(d).", "p(X), p(Y).", 2)
	image := x.Save()
	y := begun(t)
	wantLoad(t, y, image)
	y.Consult("q.")
	z := begun(t)
	wantLoad(t, z, image)
	wantMore(t, z, "X = a, Y = d", "X = b, Y = a")
	z.Stop()
	wantMore(t, y, "Idle")
	wantMore(t, x, "X = a, Y = d", "X = b, Y = a", "X = b, Y = b")
	wantListing(t, x, "p(a).\np(b).\np(c).\np(d).\n")
	wantLoad(t, y, image)
	wantListing(t, y, "p(a).\np(b).\np(c).\np(d).\n")
	wantMore(t, y, "X = a, Y = d", "X = b, Y = a")
}

// A question that is suspended without choices is another thing than none.
func TestP13Ended(t *testing.T) {
	x := limited(t, 10, "p(a).")
	y := begun(t)
	wantReplies(t, x, "p(X).", "X = a")
	wantLoad(t, y, x.Save())
	wantMore(t, y, "No", "Idle")
	wantMore(t, x, "No")
	wantLoad(t, y, x.Save())
	wantMore(t, y, "Idle")
	wantReplies(t, x, "p(X).", "X = a")
	x.Stop()
	wantLoad(t, y, x.Save())
	wantMore(t, y, "Idle")
	// Where none is suspended, loading ends the one that is.
	y.Ask("p(X).")
	wantLoad(t, y, x.Save())
	wantMore(t, y, "Idle")
}

func TestP13Nil(t *testing.T) {
	var none *prompt.Session
	for _, image := range someImages(t) {
		if code := none.Load(image); code != api.ErrImage {
			t.Errorf("Load = %d on a nil session, want ErrImage", code)
		}
	}
	if got := none.Save(); got != "" {
		t.Errorf("Save() = %q on a nil session, want nothing", got)
	}
}

func TestP13SaveChangesNothing(t *testing.T) {
	for _, c := range savings {
		x := limited(t, 150, c.clauses)
		y := limited(t, 150, c.clauses)
		for i := 0; i < 15; i++ {
			image := x.Save()
			if again := x.Save(); again != image {
				t.Fatalf("%s: Save() = %q, then %q", c.question, image, again)
			}
			wantListing(t, x, y.Listing())
			var a, b api.Reply
			if i == 0 {
				a = x.Ask(c.question)
				b = y.Ask(c.question)
			} else {
				a = x.More()
				b = y.More()
			}
			if a != b {
				t.Fatalf("%s, reply %d: %+v behind Save, %+v without", c.question, i, a, b)
			}
		}
	}
}

// The limit of steps is no part of an image.
func TestP13Limit(t *testing.T) {
	const clauses = "p(a). p(b) :- true, true, true. p(c). q :- r. r :- s. s. loop :- loop."
	for _, limit := range []int{1, 3, 4, 5, api.MaxSteps} {
		x := resumed(t, limit, clauses, "p(X).", 0)
		image := x.Save()
		for _, own := range []int{1, 2, 3, 4, api.MaxSteps} {
			y := limited(t, own)
			wantLoad(t, y, image)
			// Taking up the choice is no step, the three goals are.
			if own < 3 {
				wantMore(t, y, "Limit", "Idle")
			} else {
				wantMore(t, y, "X = b", "X = c", "No", "Idle")
			}
			want := "yes"
			if own < 3 {
				want = "Limit"
			}
			wantReplies(t, y, "q.", want)
			wantReplies(t, y, "loop.", "Limit")
		}
	}
	// Images of sessions that differ in their limits alone are the same.
	if resumed(t, 7, clauses, "p(X).", 1).Save() != resumed(t, 700, clauses, "p(X).", 1).Save() {
		t.Errorf("the image tells the limit")
	}
}

// Without variables the goals may have far more parts than MaxSize, in each of as many choices as there can be.
func TestP13ManyGoals(t *testing.T) {
	x := limited(t, api.MaxSteps, "two. two. last :- two. goal(f(a, -1), b, g, h). c0 :- c1.")
	for i := 1; i < api.MaxChoices; i++ {
		next := "c" + strconv.Itoa(i+1)
		if i == api.MaxChoices-1 {
			next = "last"
		}
		text := "c" + strconv.Itoa(i) + " :- two, " + next + strings.Repeat(", goal(f(a, -1), b, g, h)", 6) + "."
		if code, place := x.Consult(text); code != api.OK {
			t.Fatalf("Consult(%q) = %d, %d", text, code, place)
		}
	}
	wantReplies(t, x, "c0.", "yes")
	y := limited(t, api.MaxSteps)
	for i := 0; i < 50; i++ {
		wantLoad(t, y, x.Save())
		wantMore(t, x, "yes")
		wantMore(t, y, "yes")
	}
}

// As the model answers, so does the program, in whatever sessions the question is played on.
func TestP13Model(t *testing.T) {
	r := rand.New(rand.NewSource(13))
	loads := 0
	for i := 0; i < 1500; i++ {
		m, x := someClauses(t, r)
		y := resumed(t, m.limit, "p(1). p(2). r.", "p(X).", 0)
		for n := 0; n < 4; n++ {
			goals := append(someGoals(r, 3), someGoal(r, 3))
			text := textOf(goals) + "."
			want := m.ask(goals)
			got := x.Ask(text)
			for more := 0; ; more++ {
				if got != want {
					t.Fatalf("%s\nlimit %d, Ask(%q), then More() %d times: %+v, want %+v", x.Listing(), m.limit, text, more, got, want)
				}
				wantLoad(t, y, x.Save())
				loads++
				x, y = y, x
				if got.Kind != api.Answer || more == 12 {
					break
				}
				want = m.play(isFails)
				got = x.More()
			}
		}
	}
	if loads < 5000 {
		t.Errorf("only %d images", loads)
	}
}
