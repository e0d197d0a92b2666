package prompt_test

import (
	"math/rand"
	"strconv"
	"strings"
	"testing"

	"prompt/api"
	"prompt/prompt"
)

// tree is a term, or a goal that is a cut. The model below plays with trees, word for word as the document tells it, to be compared with the program.
type tree struct {
	kind  byte // 'v' a variable, 'n' a number, 't' a name or a compound, '!' a cut
	name  string
	value int // a number, which variable it is, or a cut's height
	args  []*tree
}

func (n *tree) parts() int {
	sum := 1
	for _, arg := range n.args {
		sum += arg.parts()
	}
	return sum
}

func (n *tree) has(which int) bool {
	if n.kind == 'v' {
		return n.value == which
	}
	for _, arg := range n.args {
		if arg.has(which) {
			return true
		}
	}
	return false
}

func (n *tree) same(m *tree) bool {
	if n.kind != m.kind || n.name != m.name || n.value != m.value || len(n.args) != len(m.args) {
		return false
	}
	for i := range n.args {
		if !n.args[i].same(m.args[i]) {
			return false
		}
	}
	return true
}

// change makes a tree anew, with other leaves for its variables and cuts.
func (n *tree) change(leaf func(*tree) *tree) *tree {
	if n.kind == 'v' || n.kind == '!' {
		return leaf(n)
	}
	m := &tree{kind: n.kind, name: n.name, value: n.value}
	for _, arg := range n.args {
		m.args = append(m.args, arg.change(leaf))
	}
	return m
}

func changed(list []*tree, leaf func(*tree) *tree) []*tree {
	var all []*tree
	for _, n := range list {
		all = append(all, n.change(leaf))
	}
	return all
}

// text writes a tree, with variables as they are called.
func (n *tree) text(called func(which int) string) string {
	switch n.kind {
	case 'v':
		return called(n.value)
	case 'n':
		return strconv.Itoa(n.value)
	case '!':
		return "!"
	}
	if len(n.args) == 0 {
		return n.name
	}
	var args []string
	for _, arg := range n.args {
		args = append(args, arg.text(called))
	}
	return n.name + "(" + strings.Join(args, ",") + ")"
}

func total(lists ...[]*tree) int {
	sum := 0
	for _, list := range lists {
		for _, n := range list {
			sum += n.parts()
		}
	}
	return sum
}

type rule struct {
	head *tree
	body []*tree
}

// opened is a choice.
type opened struct {
	not    bool
	goal   *tree
	behind []*tree
	terms  []*tree
	rules  []rule
}

type model struct {
	rules   []rule
	limit   int
	names   []string
	goals   []*tree
	terms   []*tree
	choices []opened
	past    int // how many variables there have been
}

// What comes of a goal beside the kinds of replies.
const (
	isMet   = 0
	isFails = -1
)

// equal makes two terms equal, with the goals and terms that their variables may stand in.
func equal(s *tree, t *tree, goals []*tree, terms []*tree) ([]*tree, []*tree, int) {
	firsts := []*tree{s}
	seconds := []*tree{t}
	for len(firsts) > 0 {
		s, t = firsts[0], seconds[0]
		firsts, seconds = firsts[1:], seconds[1:]
		if s.same(t) {
			continue
		}
		if s.kind != 'v' && t.kind == 'v' {
			s, t = t, s
		}
		if s.kind == 'v' {
			if t.has(s.value) {
				return nil, nil, api.Cyclic
			}
			put := func(n *tree) *tree {
				if n.kind == 'v' && n.value == s.value {
					return t
				}
				return n
			}
			firsts, seconds = changed(firsts, put), changed(seconds, put)
			goals, terms = changed(goals, put), changed(terms, put)
			if total(firsts, seconds, goals, terms) > api.MaxSize {
				return nil, nil, api.Big
			}
			continue
		}
		if s.kind != 't' || t.kind != 't' || s.name != t.name || len(s.args) != len(t.args) {
			return nil, nil, isFails
		}
		firsts = append(append([]*tree{}, s.args...), firsts...)
		seconds = append(append([]*tree{}, t.args...), seconds...)
	}
	return goals, terms, isMet
}

// used tries a rule, with variables of its own.
func (m *model) used(r rule, goal *tree, behind []*tree, terms []*tree, height int) ([]*tree, []*tree, int) {
	own := map[int]*tree{}
	leaf := func(n *tree) *tree {
		if n.kind == '!' {
			return &tree{kind: '!', value: height}
		}
		if own[n.value] == nil {
			own[n.value] = &tree{kind: 'v', value: m.past}
			m.past++
		}
		return own[n.value]
	}
	head := r.head.change(leaf)
	goals := append(changed(r.body, leaf), behind...)
	return equal(goal, head, goals, terms)
}

func (m *model) use(r rule, goal *tree, behind []*tree, terms []*tree, height int) int {
	goals, terms, outcome := m.used(r, goal, behind, terms, height)
	if outcome == isMet {
		m.goals, m.terms = goals, terms
	}
	return outcome
}

func (m *model) again() int {
	last := len(m.choices) - 1
	if last < 0 {
		return api.No
	}
	c := m.choices[last]
	m.choices = m.choices[:last:last]
	if c.not {
		m.goals, m.terms = c.behind, c.terms
		return isMet
	}
	if len(c.rules) > 1 {
		rest := c
		rest.rules = c.rules[1:]
		m.choices = append(m.choices, rest)
	}
	return m.use(c.rules[0], c.goal, c.behind, c.terms, last)
}

func (m *model) numbers(goal *tree) int {
	for _, arg := range goal.args[:2] {
		if arg.kind == 'v' {
			return api.Unbound
		}
		if arg.kind != 'n' {
			return api.Mistyped
		}
	}
	return isMet
}

func (m *model) equate(s *tree, t *tree) int {
	goals, terms, outcome := equal(s, t, m.goals, m.terms)
	if outcome == isMet {
		m.goals, m.terms = goals, terms
	}
	return outcome
}

func (m *model) take() int {
	goal := m.goals[0]
	m.goals = m.goals[1:]
	height := len(m.choices)
	if goal.kind == '!' {
		m.choices = m.choices[:goal.value:goal.value]
		return isMet
	}
	switch goal.name + "/" + strconv.Itoa(len(goal.args)) {
	case "true/0":
		return isMet
	case "fail/0":
		return isFails
	case "eq/2":
		return m.equate(goal.args[0], goal.args[1])
	case "less/2":
		outcome := m.numbers(goal)
		if outcome == isMet && goal.args[0].value >= goal.args[1].value {
			outcome = isFails
		}
		return outcome
	case "plus/3":
		if outcome := m.numbers(goal); outcome != isMet {
			return outcome
		}
		sum := goal.args[0].value + goal.args[1].value
		if sum > api.MaxNumber || sum < -api.MaxNumber {
			return api.Range
		}
		return m.equate(&tree{kind: 'n', value: sum}, goal.args[2])
	case "not/1":
		s := goal.args[0]
		switch {
		case s.kind == 'v':
			return api.Unbound
		case s.kind == 'n':
			return api.Mistyped
		case height >= api.MaxChoices:
			return api.Deep
		}
		m.choices = append(m.choices, opened{not: true, behind: m.goals, terms: m.terms})
		m.goals = []*tree{s, {kind: '!', value: height}, {kind: 't', name: "fail"}}
		return isMet
	}
	known := false
	var matching []rule
	for _, r := range m.rules {
		if r.head.name != goal.name || len(r.head.args) != len(goal.args) {
			continue
		}
		known = true
		if _, _, outcome := m.used(r, goal, m.goals, m.terms, 0); outcome != isFails {
			matching = append(matching, r)
		}
	}
	if !known {
		return api.Unknown
	}
	if len(matching) == 0 {
		return isFails
	}
	if len(matching) > 1 {
		if height >= api.MaxChoices {
			return api.Deep
		}
		m.choices = append(m.choices, opened{goal: goal, behind: m.goals, terms: m.terms, rules: matching[1:]})
	}
	return m.use(matching[0], goal, m.goals, m.terms, height)
}

func (m *model) play(outcome int) api.Reply {
	for taken := 0; ; taken++ {
		for outcome == isFails {
			outcome = m.again()
		}
		if outcome != isMet {
			return api.Reply{Kind: outcome}
		}
		if len(m.goals) == 0 {
			return api.Reply{Kind: api.Answer, Text: m.answer()}
		}
		if taken == m.limit {
			return api.Reply{Kind: api.Limit}
		}
		outcome = m.take()
	}
}

func (m *model) answer() string {
	if len(m.names) == 0 {
		return "yes"
	}
	numbers := map[int]int{}
	called := func(which int) string {
		if numbers[which] == 0 {
			numbers[which] = len(numbers) + 1
		}
		return "_" + strconv.Itoa(numbers[which])
	}
	var texts []string
	for i, term := range m.terms {
		texts = append(texts, m.names[i]+" = "+term.text(called))
	}
	return strings.Join(texts, ", ")
}

// variables are a text's variables: the later ones are no named ones.
var variables = []string{"X", "Y", "Zz", "_W", "__"}

// ask begins a question, of which the goals are known already.
func (m *model) ask(goals []*tree) api.Reply {
	m.goals, m.terms, m.names, m.choices = goals, nil, nil, nil
	m.past = len(variables)
	seen := map[int]bool{}
	note := func(n *tree) *tree {
		if n.kind == 'v' && !seen[n.value] {
			seen[n.value] = true
			if name := variables[n.value]; name[0] != '_' {
				m.names = append(m.names, name)
				m.terms = append(m.terms, n)
			}
		}
		return n
	}
	changed(goals, note)
	if total(m.goals, m.terms) > api.MaxSize {
		return api.Reply{Kind: api.Big}
	}
	return m.play(isMet)
}

func someTerm(r *rand.Rand, deep int) *tree {
	switch k := r.Intn(10); {
	case k < 4:
		return &tree{kind: 'v', value: r.Intn(len(variables))}
	case k < 7:
		return &tree{kind: 'n', value: []int{0, 0, 1, 1, 2, -1, api.MaxNumber, -api.MaxNumber}[r.Intn(8)]}
	case k == 7 || deep == 0:
		return &tree{kind: 't', name: []string{"a", "b", "r", "fail"}[r.Intn(4)]}
	}
	return someCompound(r, []string{"f", "g"}[r.Intn(2)], 1+r.Intn(2), deep-1)
}

func someCompound(r *rand.Rand, name string, args int, deep int) *tree {
	n := &tree{kind: 't', name: name}
	for i := 0; i < args; i++ {
		n.args = append(n.args, someTerm(r, deep))
	}
	return n
}

// somePredicate is a head, or a goal that clauses may be for.
func somePredicate(r *rand.Rand) *tree {
	switch k := r.Intn(12); {
	case k < 4:
		return someCompound(r, "p", 1, 2)
	case k < 8:
		return someCompound(r, "q", 2, 2)
	}
	return &tree{kind: 't', name: []string{"r", "s"}[r.Intn(2)]}
}

func someGoal(r *rand.Rand, deep int) *tree {
	k := r.Intn(24)
	switch {
	case k < 3:
		return &tree{kind: '!'}
	case k == 3:
		return &tree{kind: 't', name: []string{"true", "fail"}[r.Intn(2)]}
	case k < 7:
		return someCompound(r, "eq", 2, 2)
	case k == 7:
		return someCompound(r, "less", 2, 0)
	case k == 8:
		return someCompound(r, "plus", 3, 0)
	case k < 13 && deep > 0:
		if r.Intn(12) == 0 {
			return someCompound(r, "not", 1, 1)
		}
		s := someGoal(r, deep-1)
		for s.kind == '!' {
			s = someGoal(r, deep-1)
		}
		return &tree{kind: 't', name: "not", args: []*tree{s}}
	}
	return somePredicate(r)
}

func someGoals(r *rand.Rand, most int) []*tree {
	var goals []*tree
	for n := r.Intn(most + 1); n > 0; n-- {
		goals = append(goals, someGoal(r, 3))
	}
	return goals
}

func textOf(goals []*tree) string {
	var texts []string
	for _, goal := range goals {
		texts = append(texts, goal.text(func(which int) string { return variables[which] }))
	}
	return strings.Join(texts, ", ")
}

// someClauses puts the same clauses into a model and into a session with its limit.
func someClauses(t *testing.T, r *rand.Rand) (*model, *prompt.Session) {
	t.Helper()
	m := &model{limit: []int{5, 60, 300}[r.Intn(3)]}
	x := limited(t, m.limit)
	for n := 4 + r.Intn(10); n > 0; n-- {
		c := rule{head: somePredicate(r)}
		text := textOf([]*tree{c.head})
		if r.Intn(3) > 0 {
			c.body = someGoals(r, 3)
		}
		if len(c.body) > 0 {
			text += " :- " + textOf(c.body)
		}
		if code, place := x.Consult(text + "."); code != api.OK {
			t.Fatalf("Consult(%q) = %d, %d", text, code, place)
		}
		m.rules = append(m.rules, c)
	}
	return m, x
}

// The program answers as the model does, whatever is asked of whatever clauses.
func TestP9Model(t *testing.T) {
	r := rand.New(rand.NewSource(9))
	var kinds [api.Unknown + 1]int
	for i := 0; i < 4000; i++ {
		m, x := someClauses(t, r)
		for n := 0; n < 6; n++ {
			goals := append(someGoals(r, 3), someGoal(r, 3))
			text := textOf(goals) + "."
			want := m.ask(goals)
			got := x.Ask(text)
			for more := 0; ; more++ {
				if got != want {
					t.Fatalf("%s\nlimit %d, Ask(%q), then More() %d times: %+v, want %+v", x.Listing(), m.limit, text, more, got, want)
				}
				kinds[got.Kind]++
				if got.Kind != api.Answer || more == 20 {
					break
				}
				want = m.play(isFails)
				got = x.More()
			}
		}
	}
	for _, kind := range []int{api.Answer, api.No, api.Limit, api.Deep, api.Big, api.Cyclic, api.Unbound, api.Mistyped, api.Range, api.Unknown} {
		if kinds[kind] < 10 {
			t.Errorf("only %d replies were of the kind %d: the questions try too little", kinds[kind], kind)
		}
	}
}
