package play

import (
	"encoding/binary"
	"fmt"
	"hash/crc32"
	"reflect"
	"strconv"
	"strings"
	"testing"

	"prompt/api"
	"prompt/image"
	"prompt/term"
)

const saved = "d(0). d(1). d(2). e(X, X). e(_, f(X)). once. p(X) :- d(X), !, once. p(3)."

// chosen is a choice with clauses left: its goals, and terms as the arguments of a last goal. The cuts have these heights.
func chosen(t *testing.T, text string, left int, heights ...int) choice {
	t.Helper()
	goals := begun(t, text).now.goals
	last := len(goals) - 1
	s := state{goals: goals[:last]}
	for i := range goals[last].Top().Args {
		s.terms = append(s.terms, goals[last].Arg(i))
	}
	for _, goal := range s.goals {
		if goal.Top().Kind == term.Cut {
			goal[0].Value, heights = heights[0], heights[1:]
		}
	}
	return choice{from: s.renumbered(), clauses: make([]int, left)}
}

// loaded reads what a question tells, whatever it is, and says whether it is one that is told just so.
func loaded(t *testing.T, q *Question) (*Question, bool) {
	t.Helper()
	w := &image.Writer{}
	q.Save(w)
	return loadedFrom(t, w.Image())
}

func loadedFrom(t *testing.T, bytes string) (*Question, bool) {
	t.Helper()
	r := image.Open(bytes)
	if r.Wrong() {
		t.Fatal("no image")
	}
	q := Load(r, clausesOf(t, saved))
	if r.Wrong() {
		return q, false
	}
	again := &image.Writer{}
	q.Save(again)
	return q, again.Image() == bytes
}

func wantLoaded(t *testing.T, q *Question, what string) {
	t.Helper()
	again, ok := loaded(t, q)
	if !ok {
		t.Errorf("refused: %s", what)
		return
	}
	if fmt.Sprint(again.names) != fmt.Sprint(q.names) || len(again.choices) != len(q.choices) {
		t.Errorf("%s: names %q and %d choices, want %q and %d", what, again.names, len(again.choices), q.names, len(q.choices))
		return
	}
	for i, c := range again.choices {
		if want := q.choices[i]; fmt.Sprint(c.from) != fmt.Sprint(want.from) || len(c.clauses) != len(want.clauses) {
			t.Errorf("%s: choice %d is %v, want %v", what, i, c, want)
		}
	}
}

func wantRefused(t *testing.T, q *Question, what string) {
	t.Helper()
	if _, ok := loaded(t, q); ok {
		t.Errorf("not refused: %s", what)
	}
}

// What a question that is suspended keeps, comes back as it was.
func TestLoad(t *testing.T) {
	clauses := clausesOf(t, saved)
	for _, text := range []string{"true.", "d(X).", "d(X), d(Y), d(Z).", "e(X, Y), d(Z), p(Y).", "p(A), e(A, _B), not(d(9)), d(_).", "d(X), p(Y), eq(Z, g(Y, _, -999999999)), e(W, Z), !, d(_).", "p(_)."} {
		q := begun(t, text)
		answers := 0
		for reply := q.First(clauses, 1000); reply.Kind == api.Answer; reply = q.Next(clauses, 1000) {
			answers++
			again, ok := loaded(t, q)
			if !ok || fmt.Sprint(*again) != fmt.Sprint(*q) {
				t.Fatalf("%s behind answer %d: %v, %v, want %v", text, answers, again, ok, q)
			}
		}
		if answers == 0 {
			t.Errorf("%s has no answer", text)
		}
	}
}

func TestLoadNames(t *testing.T) {
	var many []string
	for i := 0; i <= api.MaxVars; i++ {
		many = append(many, "X"+strconv.Itoa(i))
	}
	for _, names := range [][]string{nil, {"X"}, {"A", "B", "Aa", "A_", "Z09z_"}, {"Abcdefghijkl"}, many[:api.MaxVars]} {
		wantLoaded(t, &Question{names: names}, strings.Join(names, " "))
	}
	for _, names := range [][]string{{""}, {"x"}, {"_"}, {"_X"}, {"X", "_"}, {"X", "X"}, {"X", "Y", "X"}, {"Abcdefghijklm"}, {"X Y"}, {" X"}, {"X "}, {"X\n"}, {"X,"}, {"!"}, {"3"}, {"X\x00"}, {"\xc4"}, many} {
		wantRefused(t, &Question{names: names}, "the names "+strings.Join(names, "|"))
	}
}

func TestLoadChoices(t *testing.T) {
	var deep []choice
	for i := 0; i <= api.MaxChoices; i++ {
		deep = append(deep, chosen(t, "d(_), terms.", 1))
	}
	wantLoaded(t, &Question{choices: deep[:api.MaxChoices]}, "the most choices")
	wantRefused(t, &Question{choices: deep}, "a choice too many")
	wantRefused(t, &Question{choices: append(deep[:3:3], choice{})}, "a choice without anything")
}

// The clauses that are left are some of those that match, but not all.
func TestLoadClausesLeft(t *testing.T) {
	for _, c := range []struct {
		text string
		most int // how many clauses can be left
	}{
		{"d(X), terms.", 2}, {"d(X), fail, terms.", 2}, {"p(_), terms.", 1}, {"p(3), terms.", 1}, {"e(X, Y), terms.", 1}, {"e(a, f(b)), terms.", 0}, {"e(f(a), f(b)), terms.", 0}, {"e(f(b), f(b)), terms.", 1}, {"e(X, f(X)), terms.", 1},
		{"p(2), terms.", 0}, {"d(2), terms.", 0}, {"d(7), terms.", 0}, {"once, terms.", 0}, {"none, terms.", 0}, {"d, terms.", 0}, {"d(X, Y), terms.", 0},
		{"true, d(X), terms.", 0}, {"fail, terms.", 0}, {"eq(X, Y), terms.", 0}, {"less(1, 2), terms.", 0}, {"plus(1, 2, 3), terms.", 0}, {"not(d(X)), terms.", 0},
	} {
		for left := 0; left < 5; left++ {
			q := &Question{choices: []choice{chosen(t, c.text, left)}}
			what := c.text + " with clauses left: " + strconv.Itoa(left)
			if left < 1 || left > c.most {
				wantRefused(t, q, what)
				continue
			}
			wantLoaded(t, q, what)
		}
	}
	wantRefused(t, &Question{choices: []choice{chosen(t, "!, d(X), terms.", 1, 0)}}, "a cut that is to be taken")
	// Which these are is found again.
	q, _ := loaded(t, &Question{choices: []choice{chosen(t, "d(X), terms.", 2), chosen(t, "d(X), terms.", 1), chosen(t, "p(3), terms.", 1)}})
	for i, want := range [][]int{{1, 2}, {2}, {7}} {
		if got := q.choices[i].clauses; !reflect.DeepEqual(got, want) {
			t.Errorf("choice %d has the clauses %v, want %v", i, got, want)
		}
	}
}

// A cut leaves no more choices than there are, and no more than a cut ahead of it.
func TestLoadHeights(t *testing.T) {
	for _, c := range []struct {
		heights []int
		ok      bool
	}{
		{[]int{0, 0}, true}, {[]int{2, 2}, true}, {[]int{2, 0}, true}, {[]int{1, 0}, true}, {[]int{3, 0}, false}, {[]int{3, 3}, false}, {[]int{0, 1}, false}, {[]int{1, 2}, false}, {[]int{200, 0}, false},
	} {
		q := &Question{choices: []choice{chosen(t, "d(X), terms.", 1), chosen(t, "d(X), terms.", 1), chosen(t, "d(X), !, d(X), !, terms.", 1, c.heights...), chosen(t, "d(X), !, terms.", 1, 3)}}
		if c.ok {
			wantLoaded(t, q, "heights")
		} else {
			wantRefused(t, q, "heights "+strconv.Itoa(c.heights[0])+", "+strconv.Itoa(c.heights[1]))
		}
	}
	wantRefused(t, &Question{choices: []choice{chosen(t, "d(X), !, terms.", 1, 1)}}, "height 1 in the first choice")
}

// many is a list of so many terms.
func many(t term.Term, count int) []term.Term {
	var all []term.Term
	for i := 0; i < count; i++ {
		all = append(all, t)
	}
	return all
}

// chain is a term of so many parts.
func chain(parts int) term.Term {
	var t term.Term
	for i := 1; i < parts; i++ {
		t = append(t, term.Part{Kind: term.Name, Name: "f", Args: 1})
	}
	return append(t, term.Part{Kind: term.Number, Value: 1})
}

func TestLoadSizes(t *testing.T) {
	any := chosen(t, "d(X), terms.", 1).from.goals[0]
	for _, c := range []struct {
		what  string
		goals []term.Term
		terms []term.Term
		ok    bool
	}{
		{"the most goals", many(any, api.MaxSteps), nil, true},
		{"a goal too many", many(any, api.MaxSteps+1), nil, false},
		{"no goal", nil, nil, false},
		{"the greatest goals", append(many(any, 1), many(chain(api.MaxSize), 5)...), nil, true},
		{"a goal that is too great", append(many(any, 1), chain(api.MaxSize+1)), nil, false},
		{"the greatest terms", many(any, 1), []term.Term{chain(api.MaxSize - 1), chain(1)}, true},
		{"terms that are too great", many(any, 1), []term.Term{chain(api.MaxSize - 1), chain(2)}, false},
		{"a term that is too great", many(any, 1), []term.Term{chain(api.MaxSize + 1)}, false},
	} {
		q := &Question{names: []string{"X", "Y", "Z"}[:len(c.terms)], choices: []choice{{from: state{goals: c.goals, terms: c.terms, fresh: 1}, clauses: make([]int, 1)}}}
		if c.ok {
			wantLoaded(t, q, c.what)
		} else {
			wantRefused(t, q, c.what)
		}
	}
}

// Each choice has a term for each name.
func TestLoadTerms(t *testing.T) {
	for names := 0; names < 4; names++ {
		q := &Question{names: []string{"X", "Y", "Z"}[:names], choices: []choice{chosen(t, "d(X), terms(X, f(Y)).", 1)}}
		_, ok := loaded(t, q)
		if ok != (names == 2) {
			t.Errorf("two terms for %d names: %v", names, ok)
		}
	}
}

// Variables are numbered by where they first stand, in the goals and then in the terms.
func TestLoadVariables(t *testing.T) {
	for _, c := range []struct {
		numbers [4]int
		ok      bool
	}{
		{[4]int{0, 0, 0, 0}, true}, {[4]int{0, 1, 2, 3}, true}, {[4]int{0, 1, 0, 1}, true}, {[4]int{0, 1, 1, 2}, true},
		{[4]int{1, 0, 0, 0}, false}, {[4]int{0, 2, 1, 1}, false}, {[4]int{0, 1, 3, 2}, false}, {[4]int{0, 0, 0, 2}, false}, {[4]int{0, 0, 2, 1}, false}, {[4]int{100, 0, 0, 0}, false},
	} {
		made := chosen(t, "d(A), e(B, C), terms(D).", 1)
		fresh := 0
		for i, t := range []term.Term{made.from.goals[0][1:], made.from.goals[1][1:], made.from.goals[1][2:], made.from.terms[0]} {
			t[0].Value = c.numbers[i]
			fresh = max(fresh, t[0].Value+1)
		}
		made.from.fresh = fresh
		q := &Question{names: []string{"X"}, choices: []choice{made}}
		if c.ok {
			wantLoaded(t, q, "variables")
		} else {
			wantRefused(t, q, "variables "+strconv.Itoa(c.numbers[1])+", "+strconv.Itoa(c.numbers[2])+", "+strconv.Itoa(c.numbers[3]))
		}
	}
}

// part is a choice for d of whatever is told as its argument.
func part(t *testing.T, tell func(w *image.Writer)) (*Question, bool) {
	t.Helper()
	w := &image.Writer{}
	w.Number(0) // names
	w.Number(1) // choices
	w.Number(2) // goals
	w.Number(0) // no cut
	w.Number(1) // arguments
	w.Word("d")
	w.Number(aVariable)
	w.Number(0)
	w.Number(0) // no cut
	w.Number(1) // arguments
	w.Word("e")
	tell(w)
	w.Number(1) // clauses
	return loadedFrom(t, w.Image())
}

func TestLoadParts(t *testing.T) {
	for _, name := range []string{"a", "abcdefghijkl", "aB_9"} {
		q, ok := part(t, func(w *image.Writer) {
			w.Number(0)
			w.Word(name)
		})
		if !ok || q.choices[0].from.goals[1].Text() != "e("+name+")" {
			t.Errorf("the name %s is refused", name)
		}
	}
	for _, name := range []string{"", "A", "_a", "9", "-9", "!", "a b", "a ", " a", "a.", "a()", "abcdefghijklm", "\x00", "\xe4"} {
		if _, ok := part(t, func(w *image.Writer) {
			w.Number(0)
			w.Word(name)
		}); ok {
			t.Errorf("the name %q is not refused", name)
		}
	}
	for _, value := range []int{0, 1, api.MaxNumber, 2 * api.MaxNumber, 2*api.MaxNumber + 1} {
		q, ok := part(t, func(w *image.Writer) {
			w.Number(aNumber)
			w.Number(value)
		})
		if ok != (value <= 2*api.MaxNumber) {
			t.Errorf("the number that is told as %d: %v", value, ok)
		}
		if ok && q.choices[0].from.goals[1].Text() != "e("+strconv.Itoa(value-api.MaxNumber)+")" {
			t.Errorf("the number that is told as %d is read wrong", value)
		}
	}
	for begins := aNumber + 1; begins < 300; begins++ {
		if _, ok := part(t, func(w *image.Writer) {
			w.Number(begins)
			w.Word("a")
		}); ok {
			t.Errorf("a part that begins with %d is not refused", begins)
		}
	}
}

// A goal is no variable and no number.
func TestLoadGoals(t *testing.T) {
	for _, kind := range []int{term.Variable, term.Number} {
		made := chosen(t, "d(X), terms.", 1)
		made.from.goals = append(made.from.goals, term.Term{{Kind: kind}})
		wantRefused(t, &Question{choices: []choice{made}}, "a goal of the kind "+strconv.Itoa(kind))
	}
}

// Whatever the bytes are, they are refused or can be played.
func TestLoadAny(t *testing.T) {
	whole := &Question{names: []string{"X", "Y"}, choices: []choice{chosen(t, "d(X), e(X, g(Y, 3)), terms(X, Y).", 2), chosen(t, "p(X), !, terms(X, f(X, a, -1)).", 1, 1)}}
	wantLoaded(t, whole, "the whole")
	w := &image.Writer{}
	whole.Save(w)
	bytes := w.Image()
	told := bytes[4 : len(bytes)-4]
	if again, ok := loadedFrom(t, made(told)); !ok || len(again.choices) != 2 {
		t.Fatal("the whole is refused")
	}
	for n := range told {
		if _, ok := loadedFrom(t, made(told[:n])); ok {
			t.Errorf("the first %d bytes are not refused", n)
		}
		for b := range 256 {
			changed := []byte(told)
			changed[n] = byte(b)
			q, ok := loadedFrom(t, made(string(changed)))
			if !ok {
				continue
			}
			// What is read can be played.
			clauses := clausesOf(t, saved)
			for k := 0; k < 50; k++ {
				if reply := q.Next(clauses, 1000); reply.Kind != api.Answer {
					break
				}
			}
		}
	}
}

// made is an image that tells these bytes.
func made(told string) string {
	image := string(binary.LittleEndian.AppendUint32(nil, uint32(len(told)+8))) + told
	return string(binary.LittleEndian.AppendUint32([]byte(image), crc32.ChecksumIEEE([]byte(image))))
}
