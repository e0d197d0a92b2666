package term

import (
	"reflect"
	"testing"
)

func variable(which int) Part { return Part{Kind: Variable, Value: which} }

func TestLead(t *testing.T) {
	f := named("f", 2)
	a := named("a", 0)
	for _, c := range []struct {
		terms Term
		want  int
	}{
		{nil, 0}, {Term{a}, 1}, {Term{a, a}, 1}, {Term{variable(0), a}, 1}, {Term{f, a, a}, 3}, {Term{f, a, a, a}, 3}, {Term{f, f, a, a, a, f, a, a}, 5}, {Term{f, a, f, a, a, a}, 5}, {Term{named("g", 1), named("g", 1), a, a}, 3}, {Term{{Kind: Number, Value: 3}, a}, 1},
		// Arguments that are missing must not be looked for behind the end.
		{Term{f, a}, 2},
	} {
		if got := c.terms.Lead(); got != c.want {
			t.Errorf("%v: the first has %d parts, want %d", c.terms, got, c.want)
		}
	}
}

func TestArg(t *testing.T) {
	a := named("a", 0)
	g := named("g", 1)
	three := Term{named("f", 3), g, g, a, variable(4), named("h", 2), a, g, a}
	for which, want := range []Term{{g, g, a}, {variable(4)}, {named("h", 2), a, g, a}, {}, {}} {
		if got := three.Arg(which); len(got) != len(want) || len(want) > 0 && !reflect.DeepEqual(got, want) {
			t.Errorf("argument %d is %v, want %v", which, got, want)
		}
	}
	for _, none := range []Term{nil, {a}, {variable(0)}, {g}} {
		if got := none.Arg(0); len(got) != 0 {
			t.Errorf("%v has the argument %v", none, got)
		}
	}
}

func TestPut(t *testing.T) {
	f := named("f", 3)
	whole := Term{f, variable(1), variable(2), variable(1)}
	other := Term{named("g", 1), variable(2)}
	if n := whole.Count(1); n != 2 {
		t.Errorf("the variable stands there %d times", n)
	}
	if n := (Term{named("f", 0), {Kind: Number, Value: 1}, {Kind: Cut, Value: 1}}).Count(1); n != 0 {
		t.Errorf("something that is no variable stands there %d times", n)
	}
	want := Term{f, named("g", 1), variable(2), variable(2), named("g", 1), variable(2)}
	if got := whole.Put(1, other); !reflect.DeepEqual(got, want) {
		t.Errorf("%v, want %v", got, want)
	}
	if !reflect.DeepEqual(whole, Term{f, variable(1), variable(2), variable(1)}) || !reflect.DeepEqual(other, Term{named("g", 1), variable(2)}) {
		t.Errorf("to put something changed %v and %v", whole, other)
	}
	all := PutAll([]Term{whole, {variable(2)}, {variable(1)}}, 1, other)
	if !reflect.DeepEqual(all, []Term{want, {variable(2)}, other}) {
		t.Errorf("in all: %v", all)
	}
}

func TestOwn(t *testing.T) {
	c := Clause{Head: Term{named("p", 2), variable(0), {Kind: Number, Value: 1}}, Body: []Term{{{Kind: Cut}}, {named("q", 2), variable(1), variable(0)}}}
	want := Clause{Head: Term{named("p", 2), variable(10), {Kind: Number, Value: 1}}, Body: []Term{{{Kind: Cut, Value: 3}}, {named("q", 2), variable(11), variable(10)}}}
	if got := c.Own(10, 3); !reflect.DeepEqual(got, want) {
		t.Errorf("%v, want %v", got, want)
	}
	if n := c.Past(); n != 2 {
		t.Errorf("%d variables", n)
	}
	if c.Head[1] != variable(0) || c.Body[0][0].Value != 0 || c.Body[1][1] != variable(1) {
		t.Errorf("the clause itself became %v", c)
	}
	if n := (Clause{Head: Term{named("p", 1), variable(0)}}).Past(); n != 1 {
		t.Errorf("%d variables in a fact of one", n)
	}
	if n := (Clause{Head: Term{named("p", 1), named("a", 0)}, Body: []Term{{{Kind: Cut}}}}).Past(); n != 0 {
		t.Errorf("%d variables where there are none", n)
	}
}

func TestRenumber(t *testing.T) {
	terms := []Term{{named("f", 2), variable(7), variable(3)}, {{Kind: Number, Value: 9}}, {{Kind: Cut, Value: 5}}, {variable(3)}, {variable(0)}}
	want := []Term{{named("f", 2), variable(0), variable(1)}, {{Kind: Number, Value: 9}}, {{Kind: Cut, Value: 5}}, {variable(1)}, {variable(2)}}
	got, count := Renumber(terms)
	if count != 3 || !reflect.DeepEqual(got, want) {
		t.Errorf("%v with %d variables, want %v", got, count, want)
	}
	if terms[0][1] != variable(7) {
		t.Errorf("the terms themselves became %v", terms)
	}
	again, count := Renumber(got)
	if count != 3 || !reflect.DeepEqual(again, want) {
		t.Errorf("once more: %v with %d variables", again, count)
	}
	if none, count := Renumber(nil); len(none) != 0 || count != 0 {
		t.Errorf("of nothing: %v, %d", none, count)
	}
}

func TestAnswer(t *testing.T) {
	f := Term{named("f", 3), variable(0), {Kind: Number, Value: -1}, variable(20)}
	if got := f.Answer(); got != "f(_1,-1,_21)" {
		t.Errorf("written as %q", got)
	}
}
