package read

import (
	"reflect"
	"testing"

	"prompt/api"
	"prompt/term"
)

func TestClausesAsParts(t *testing.T) {
	a := term.Part{Kind: term.Name, Name: "a"}
	first := term.Part{Kind: term.Variable, Value: 0}
	second := term.Part{Kind: term.Variable, Value: 1}
	want := []term.Clause{
		{Head: term.Term{a}},
		{
			Head: term.Term{{Kind: term.Name, Name: "p", Args: 3}, first, {Kind: term.Name, Name: "f", Args: 2}, a, second, first},
			Body: []term.Term{
				{{Kind: term.Name, Name: "q", Args: 2}, {Kind: term.Number, Value: -7}, second},
				{{Kind: term.Cut}},
				{a},
			},
		},
		{Head: term.Term{{Kind: term.Name, Name: "p", Args: 3}, first, second, {Kind: term.Variable, Value: 2}}},
	}
	got, code, place := Clauses("a. p(Y, f(a, X), Y) :- q(-007, X), !, a. p(_, Y, _).")
	if code != api.OK || place != 0 || !reflect.DeepEqual(got, want) {
		t.Errorf("%v, %d, %d, want %v", got, code, place, want)
	}
}

func TestNothingBesideAnError(t *testing.T) {
	for _, text := range []string{"a. b(", "a. $", "a. X.", string(make([]byte, api.MaxText+1))} {
		if got, code, _ := Clauses(text); got != nil || code == api.OK {
			t.Errorf("%.20q: %v, %d", text, got, code)
		}
	}
}

func TestQuestionAsParts(t *testing.T) {
	want := []term.Term{
		{{Kind: term.Name, Name: "p", Args: 3}, {Kind: term.Variable, Value: 0}, {Kind: term.Variable, Value: 1}, {Kind: term.Variable, Value: 2}},
		{{Kind: term.Cut}},
		{{Kind: term.Name, Name: "q", Args: 2}, {Kind: term.Variable, Value: 3}, {Kind: term.Variable, Value: 0}},
	}
	goals, names, code, place := Question(" p(Y, _, _a), !, q(_, Y).\n")
	if code != api.OK || place != 0 || !reflect.DeepEqual(goals, want) || !reflect.DeepEqual(names, []string{"Y", "_", "_a", "_"}) {
		t.Errorf("%v, %v, %d, %d, want %v", goals, names, code, place, want)
	}
	for _, text := range []string{"", "a", "a. b.", "a(X), X.", string(make([]byte, api.MaxText+1))} {
		if goals, names, code, _ := Question(text); goals != nil || names != nil || code == api.OK {
			t.Errorf("%.20q: %v, %v, %d", text, goals, names, code)
		}
	}
}

func TestTokens(t *testing.T) {
	const text = "pQ_1 _ X9( ) , .!:--12 -:a"
	want := []token{
		{name, 0, 4, 0}, {variable, 5, 6, 0}, {variable, 7, 9, 0}, {opening, 9, 10, 0}, {closing, 11, 12, 0}, {comma, 13, 14, 0}, {dot, 15, 16, 0}, {cut, 16, 17, 0}, {follows, 17, 19, 0}, {number, 19, 22, 0},
		{wrong, 23, 24, api.ErrSyntax}, {wrong, 24, 25, api.ErrSyntax}, {name, 25, 26, 0}, {end, 26, 26, 0}, {end, 26, 26, 0},
	}
	offset := 0
	for _, w := range want {
		got := scan(text, offset)
		if got != w {
			t.Errorf("at %d: %v, want %v", offset, got, w)
		}
		offset = got.to
	}
}

func TestWords(t *testing.T) {
	for _, c := range []struct {
		word               string
		isName, isVariable bool
	}{
		{"a", true, false}, {"aB_9", true, false}, {"abcdefghijkl", true, false}, {"abcdefghijklm", false, false},
		{"A", false, true}, {"_", false, true}, {"_a", false, true}, {"Abcdefghijkl", false, true}, {"Abcdefghijklm", false, false},
		{"", false, false}, {" ", false, false}, {" a", false, false}, {"a ", false, false}, {"a b", false, false}, {"A\n", false, false}, {"\nA", false, false}, {"a.", false, false}, {"A,", false, false}, {"7", false, false}, {"-7", false, false}, {"!", false, false}, {":-", false, false}, {"a(b)", false, false}, {"$", false, false}, {"a$", false, false}, {"\x00", false, false}, {"\xe4", false, false},
	} {
		if IsName(c.word) != c.isName || IsVariable(c.word) != c.isVariable {
			t.Errorf("%q: name %v, variable %v", c.word, IsName(c.word), IsVariable(c.word))
		}
	}
}
