package play

import (
	"reflect"
	"testing"

	"prompt/api"
	"prompt/read"
	"prompt/term"
)

func clausesOf(t *testing.T, text string) []term.Clause {
	t.Helper()
	clauses, code, place := read.Clauses(text)
	if code != api.OK {
		t.Fatalf("%q: %d at %d", text, code, place)
	}
	return clauses
}

func begun(t *testing.T, text string) *Question {
	t.Helper()
	goals, names, code, place := read.Question(text)
	if code != api.OK {
		t.Fatalf("%q: %d at %d", text, code, place)
	}
	return Begin(goals, names)
}

// No text is long enough for a question that is too big at once, so its goals are made here.
func TestBigAtOnce(t *testing.T) {
	for _, c := range []struct {
		goals int
		names []string
		kind  int
	}{
		{200, nil, api.Answer}, {201, nil, api.Big}, {199, []string{"X"}, api.Answer}, {200, []string{"X"}, api.Big}, {198, []string{"X", "_", "Y", "_Z"}, api.Answer}, {199, []string{"X", "_", "Y", "_Z"}, api.Big}, {200, []string{"_", "_Z"}, api.Answer},
	} {
		var goals []term.Term
		for i := 0; i < c.goals; i++ {
			goals = append(goals, term.Term{{Kind: term.Name, Name: "true"}})
		}
		if got := Begin(goals, c.names).First(nil, api.MaxSteps); got.Kind != c.kind {
			t.Errorf("%d goals, variables %q: %+v, want the kind %d", c.goals, c.names, got, c.kind)
		}
	}
	// A cut counts as a part, and a compound with all of its parts.
	goals := []term.Term{{{Kind: term.Cut}}}
	for i := 0; i < 66; i++ {
		goals = append(goals, term.Term{{Kind: term.Name, Name: "f", Args: 2}, {Kind: term.Number}, {Kind: term.Number}})
	}
	if size := Begin(goals, []string{"X"}).now.size(); size != 200 {
		t.Errorf("the parts are counted as %d, not 200", size)
	}
}

// cuts are the heights of the cuts among goals, in order.
func cuts(goals []term.Term) []int {
	var heights []int
	for _, goal := range goals {
		if goal.Top().Kind == term.Cut {
			heights = append(heights, goal.Top().Value)
		}
	}
	return heights
}

// The cuts of a body have as their height how many choices there were before the goal was taken.
func TestHeights(t *testing.T) {
	clauses := clausesOf(t, "d(0). d(1). d(2). one :- !, d(_), !. two(a) :- !. two(_) :- !, two(b), !. two(_) :- !.")
	take := func(q *Question) {
		t.Helper()
		if outcome := q.take(clauses); outcome != met {
			t.Fatalf("the outcome of a goal is %d", outcome)
		}
	}
	wantHeights := func(q *Question, choices int, heights ...int) {
		t.Helper()
		if got := cuts(q.now.goals); len(q.choices) != choices || !reflect.DeepEqual(got, heights) {
			t.Errorf("%d choices and the heights %v, want %d and %v", len(q.choices), got, choices, heights)
		}
	}
	q := begun(t, "d(_), d(_), one, !.")
	wantHeights(q, 0, 0)
	take(q)
	take(q)
	take(q)
	wantHeights(q, 2, 2, 2, 0)
	q = begun(t, "d(_), two(a), !.")
	take(q)
	take(q)
	wantHeights(q, 2, 1, 0)
	for _, want := range []struct {
		choices int
		heights []int
	}{{2, []int{1, 1, 0}}, {1, []int{1, 0}}} {
		if outcome := q.again(clauses); outcome != met {
			t.Fatalf("the outcome of a choice is %d", outcome)
		}
		wantHeights(q, want.choices, want.heights...)
	}
}

// written writes the goals and terms of a state.
func written(s state) string {
	s = s.renumbered()
	text := ""
	for _, t := range joined(s.goals, s.terms) {
		text += t.Text() + " "
	}
	return text
}

// A not leaves what is behind it in a choice, and has that dropped by a cut.
func TestNot(t *testing.T) {
	clauses := clausesOf(t, "d(0). d(1). d(2).")
	q := begun(t, "d(X), d(_), not(d(Y)), e(X, Y), !.")
	for i := 0; i < 3; i++ {
		if outcome := q.take(clauses); outcome != met {
			t.Fatalf("the outcome of goal %d is %d", i, outcome)
		}
	}
	if text := written(q.now); text != "d(A) ! fail 0 A " || cuts(q.now.goals)[0] != 2 {
		t.Errorf("to be met within the not, and the terms: %s, cuts %v", text, cuts(q.now.goals))
	}
	if len(q.choices) != 3 {
		t.Fatalf("%d choices within the not", len(q.choices))
	}
	put := q.choices[2]
	if text := written(put.from); text != "e(0,A) ! 0 A " || cuts(put.from.goals)[0] != 0 || len(put.clauses) != 0 {
		t.Errorf("its choice: %s, cuts %v, clauses %v", text, cuts(put.from.goals), put.clauses)
	}
	if outcome := q.again(clauses); outcome != met || len(q.choices) != 2 || written(q.now) != "e(0,A) ! 0 A " {
		t.Errorf("taken up: %d, with %d choices %s", outcome, len(q.choices), written(q.now))
	}
}

// Of choices that a cut drops nothing is kept, not even behind the list's end.
func TestDropTo(t *testing.T) {
	clauses := clausesOf(t, "d(0). d(1).")
	for height := 0; height <= 4; height++ {
		q := begun(t, "d(_), d(_), d(_), !, d(_).")
		for i := 0; i < 3; i++ {
			q.take(clauses)
		}
		q.dropTo(height)
		left := min(height, 3)
		if len(q.choices) != left {
			t.Errorf("height %d leaves %d choices", height, len(q.choices))
		}
		for i, c := range q.choices[:3] {
			if kept := len(c.from.goals) > 0; kept != (i < left) {
				t.Errorf("height %d, choice %d: %v", height, i, c)
			}
		}
	}
}

// No question is suspended within a not, so what it keeps are clauses to be used.
func TestNoNotSuspended(t *testing.T) {
	clauses := clausesOf(t, "d(0). d(1). d(2). p(X) :- d(X), not(not(d(_))), not(q(X)). q(X) :- d(Y), not(not(d(Y))), less(X, Y), !.")
	q := begun(t, "not(not(p(_))), d(X), p(Y), not(d(3)), d(Z).")
	reply := q.First(clauses, 1000)
	answers := 0
	choices := 0
	for reply.Kind == api.Answer {
		answers++
		choices += len(q.choices)
		for i, c := range q.choices {
			if len(c.clauses) == 0 {
				t.Errorf("%s: choice %d has no clauses", reply.Text, i)
			}
		}
		reply = q.Next(clauses, 1000)
	}
	if answers != 9 || choices != 12 || reply.Kind != api.No {
		t.Errorf("%d answers with %d choices, then %+v", answers, choices, reply)
	}
}

// A question that goes on for ever keeps no more for it.
func TestSuspended(t *testing.T) {
	clauses := clausesOf(t, "p(X, Y). p(X, Y) :- r(X, Z, Y, A), p(Y, X). r(_, _, _, _).")
	q := begun(t, "p(X, f(_, Y)).")
	reply := q.First(clauses, 100)
	for i := 0; i < 1000; i++ {
		if reply.Kind != api.Answer || len(q.choices) != 1 {
			t.Fatalf("answer %d: %+v with %d choices", i, reply, len(q.choices))
		}
		if !reflect.DeepEqual(q.now, state{}) {
			t.Fatalf("answer %d: %v is kept of what has been met", i, q.now)
		}
		kept := q.choices[0].from
		if again := kept.renumbered(); !reflect.DeepEqual(again, kept) || kept.fresh != 3 {
			t.Fatalf("answer %d: %v is kept", i, kept)
		}
		reply = q.Next(clauses, 100)
	}
}

// Trying a clause changes nothing of the state that it is tried in.
func TestWithChangesNothing(t *testing.T) {
	clauses := clausesOf(t, "p(f(X), X, Y) :- q(Y), !.")
	q := begun(t, "p(A, b, C), q(A, C).")
	before := q.now.renumbered()
	next, outcome := q.now.with(clauses[0], 4)
	if outcome != met || !reflect.DeepEqual(q.now, before) {
		t.Errorf("outcome %d, and %v became %v", outcome, before, q.now)
	}
	if text := written(next); text != "q(A) ! q(f(b),A) f(b) A " {
		t.Errorf("what is to be met, and the terms: %s", text)
	}
}
