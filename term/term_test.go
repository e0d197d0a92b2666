package term

import "testing"

func named(name string, args int) Part { return Part{Kind: Name, Name: name, Args: args} }

func TestTextOfTerms(t *testing.T) {
	for _, c := range []struct {
		term Term
		want string
	}{
		{nil, ""},
		{Term{named("p", 0)}, "p"},
		{Term{{Kind: Cut}}, "!"},
		{Term{{Kind: Number, Value: -12}}, "-12"},
		{Term{{Kind: Number}}, "0"},
		{Term{{Kind: Variable}}, "A"},
		{Term{{Kind: Variable, Value: 15}}, "P"},
		{Term{named("p", 1), named("q", 0)}, "p(q)"},
		{Term{named("p", 2), named("q", 1), named("r", 0), named("s", 0)}, "p(q(r),s)"},
		{Term{named("p", 2), named("s", 0), named("q", 1), named("r", 1), {Kind: Variable, Value: 1}}, "p(s,q(r(B)))"},
		// No clause has such a variable, but writing one must not fail.
		{Term{{Kind: Variable, Value: 16}}, "_"},
		{Term{{Kind: Variable, Value: -1}}, "_"},
	} {
		if got := c.term.Text(); got != c.want {
			t.Errorf("%v is written %q, want %q", c.term, got, c.want)
		}
	}
}

func TestTextOfClauses(t *testing.T) {
	fact := Clause{Head: Term{named("p", 0)}}
	if got := fact.Text(); got != "p." {
		t.Errorf("a fact is written %q", got)
	}
	rule := Clause{Head: Term{named("p", 0)}, Body: []Term{{named("q", 0)}, {{Kind: Cut}}, {named("r", 0)}}}
	if got := rule.Text(); got != "p:-q,!,r." {
		t.Errorf("a rule is written %q", got)
	}
}

func TestBuiltIn(t *testing.T) {
	args := map[string]int{"true": 0, "fail": 0, "not": 1, "eq": 2, "less": 2, "plus": 3}
	for _, name := range []string{"true", "fail", "not", "eq", "less", "plus", "p", ""} {
		for n := 0; n <= 4; n++ {
			wanted, known := args[name]
			want := known && wanted == n
			if got := (Term{named(name, n)}).BuiltIn(); got != want {
				t.Errorf("%s with %d arguments: %v, want %v", name, n, got, want)
			}
		}
	}
	for _, other := range []Term{nil, {{Kind: Variable}}, {{Kind: Number}}, {{Kind: Cut}}} {
		if other.BuiltIn() {
			t.Errorf("%v has no predicate, but is built in", other)
		}
	}
}
