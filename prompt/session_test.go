package prompt_test

import (
	"math"
	"math/rand"
	"strings"
	"testing"

	"prompt/api"
	"prompt/prompt"
)

func begun(t *testing.T) *prompt.Session {
	t.Helper()
	x, code := prompt.New(100)
	if x == nil || code != api.OK {
		t.Fatalf("New(100): %v, %d", x, code)
	}
	return x
}

// holding is a session that has consulted texts which are all right.
func holding(t *testing.T, texts ...string) *prompt.Session {
	t.Helper()
	x := begun(t)
	for _, text := range texts {
		if code, place := x.Consult(text); code != api.OK || place != 0 {
			t.Fatalf("Consult(%q) = %d, %d, want OK and 0", text, code, place)
		}
	}
	return x
}

func wantListing(t *testing.T, x *prompt.Session, want string) {
	t.Helper()
	if got := x.Listing(); got != want {
		t.Errorf("Listing() = %q, want %q", got, want)
	}
}

func TestP1NilSession(t *testing.T) {
	var x *prompt.Session
	for _, text := range []string{"", "p.", "$", strings.Repeat("p", 500)} {
		if code, place := x.Consult(text); code != api.ErrArg || place != 0 {
			t.Errorf("Consult(%.20q) = %d, %d, want ErrArg and 0", text, code, place)
		}
		if got := x.Ask(text); got != (api.Reply{Kind: api.Idle}) {
			t.Errorf("Ask(%.20q) = %v, want Idle alone", text, got)
		}
		if got := x.Load(text); got != api.ErrImage {
			t.Errorf("Load(%.20q) = %d, want ErrImage", text, got)
		}
	}
	if got := x.More(); got != (api.Reply{Kind: api.Idle}) {
		t.Errorf("More() = %v, want Idle alone", got)
	}
	x.Stop()
	wantListing(t, x, "")
	if got := x.Save(); got != "" {
		t.Errorf("Save() = %q, want nothing", got)
	}
}

// anyText strings tokens and bytes together that may or may not make sense.
func anyText(r *rand.Rand) string {
	pieces := []string{"p", "q", "p(", "true", "eq(", "not(", "less(", "plus(", "X", "Y", "_", "3", "-3", "-", "(", ")", ")", ",", ",", ".", ".", "!", ":-", ":-", ":", " ", "\n", "\t", "$", "\x00", "\xff", "abcdefghijklm", "1234567890"}
	text := ""
	for n := r.Intn(60); n > 0; n-- {
		text += pieces[r.Intn(len(pieces))]
	}
	return text
}

func TestP1AnyText(t *testing.T) {
	r := rand.New(rand.NewSource(1))
	x := begun(t)
	for i := 0; i < 20000; i++ {
		text := anyText(r)
		before := x.Listing()
		code, place := x.Consult(text)
		if place < 0 || place > len(text) || code < api.OK || code > api.ErrFull {
			t.Fatalf("Consult(%q) = %d, %d", text, code, place)
		}
		if code == api.OK && place != 0 {
			t.Fatalf("Consult(%q) = OK, %d", text, place)
		}
		after := x.Listing()
		if code != api.OK && after != before {
			t.Fatalf("Consult(%q) = %d, and yet %q became %q", text, code, before, after)
		}
		if !strings.HasPrefix(after, before) {
			t.Fatalf("Consult(%q): %q became %q", text, before, after)
		}
	}
}

// wantShape checks what holds of every reply that a session gives.
func wantShape(t *testing.T, got api.Reply, call string) {
	t.Helper()
	rest := got
	rest.Kind = 0
	switch got.Kind {
	case api.Answer:
		if got.Text == "" {
			t.Fatalf("%s = %+v, an answer without a text", call, got)
		}
		rest.Text = ""
	case api.Bad:
		if got.Code < api.ErrLong || got.Code > api.ErrGoal || got.Code == api.ErrHead || got.Place < 0 {
			t.Fatalf("%s = %+v", call, got)
		}
		rest.Code = 0
		rest.Place = 0
	}
	if got.Kind < api.Answer || got.Kind > api.Unknown || rest != (api.Reply{}) {
		t.Fatalf("%s = %+v", call, got)
	}
}

// anyCall makes some call of a session, and tells it and what it answered.
func anyCall(r *rand.Rand, x *prompt.Session) (string, api.Reply) {
	switch k := r.Intn(20); {
	case k < 3:
		text := anyClause(r)
		code, place := x.Consult(text)
		return "Consult " + text, api.Reply{Code: code, Place: place}
	case k == 3:
		text := anyText(r)
		return "Ask " + text, x.Ask(text)
	case k == 4:
		x.Stop()
		return "Stop", x.More()
	case k < 10:
		text := anyGoal(r, 2) + "," + anyGoal(r, 1) + "."
		return "Ask " + text, x.Ask(text)
	}
	return "More", x.More()
}

func TestP1AnyQuestion(t *testing.T) {
	r := rand.New(rand.NewSource(3))
	for i := 0; i < 300; i++ {
		x := begun(t)
		ended := true
		for j := 0; j < 60; j++ {
			call, got := anyCall(r, x)
			if strings.HasPrefix(call, "Consult") {
				ended = true
				continue
			}
			wantShape(t, got, call)
			if call == "Stop" || call == "More" && ended {
				if got.Kind != api.Idle {
					t.Fatalf("%s = %+v, where no question is suspended", call, got)
				}
			} else if got.Kind == api.Idle {
				t.Fatalf("%s = Idle", call)
			}
			ended = got.Kind != api.Answer
		}
	}
}

// A text can nest no deeper than its bytes allow; reading must bear that.
func TestP1DeepText(t *testing.T) {
	deep := strings.Repeat("p(", 132) + "p" + strings.Repeat(")", 132)
	x := holding(t, deep+".")
	wantListing(t, x, deep+".\n")
	for _, piece := range []string{"p(", "(", "p(a,", "p:-", ")", "p(X", "!", "p:-p(", "-"} {
		text := strings.Repeat(piece, api.MaxText/len(piece))
		if code, _ := x.Consult(text); code == api.OK {
			t.Errorf("Consult(%.20q..) = OK", text)
		}
	}
}

func TestP2SessionsApart(t *testing.T) {
	texts := []string{"p(X, Y).", "q :- p(", "r(Y) :- p(Y, X), !.", "true.", strings.Repeat("s.", 27), "t. t. t.", "u.", "v."}
	alone := begun(t)
	var codes []api.Errno
	var places []int
	for _, text := range texts {
		code, place := alone.Consult(text)
		codes = append(codes, code)
		places = append(places, place)
	}
	first := begun(t)
	second := holding(t, "other(A) :- p(A, A).")
	for i, text := range texts {
		second.Consult("p(B). p(" + text)
		first.Listing()
		code, place := first.Consult(text)
		if code != codes[i] || place != places[i] {
			t.Errorf("Consult(%q) = %d, %d beside another session, %d, %d alone", text, code, place, codes[i], places[i])
		}
	}
	wantListing(t, first, alone.Listing())
	wantListing(t, second, "other(A):-p(A,A).\n")
}

// The same calls have the same answers, alone and beside another session's calls.
func TestP2QuestionsApart(t *testing.T) {
	var replies []api.Reply
	const rounds = 2000
	alone := begun(t)
	r := rand.New(rand.NewSource(4))
	for i := 0; i < rounds; i++ {
		_, got := anyCall(r, alone)
		replies = append(replies, got)
	}
	beside := begun(t)
	other := holding(t, "p(1). p(2). p(X, Y) :- p(X), p(Y). q. q(X) :- p(X, X). r(_, _, _).")
	r = rand.New(rand.NewSource(4))
	for i := 0; i < rounds; i++ {
		other.Ask("p(X, Y).")
		call, got := anyCall(r, beside)
		if got != replies[i] {
			t.Fatalf("call %d, %s = %+v beside another session, %+v alone", i, call, got, replies[i])
		}
		wantMore(t, other, "X = 1, Y = 2", "X = 2, Y = 1")
	}
}

// Sessions that began with the same clauses go their own ways from there.
func TestP2SameBeginning(t *testing.T) {
	const text = "p(a). p(b). p(c)."
	first := holding(t, text)
	second := holding(t, text)
	for i := 0; i < 5; i++ {
		first.Consult("left(X).")
		second.Consult("right.")
	}
	wantListing(t, first, "p(a).\np(b).\np(c).\n"+strings.Repeat("left(A).\n", 5))
	wantListing(t, second, "p(a).\np(b).\np(c).\n"+strings.Repeat("right.\n", 5))
}

func TestP3New(t *testing.T) {
	for _, limit := range []int{math.MinInt, -1000, -1, 0, api.MaxSteps + 1, math.MaxInt} {
		if x, code := prompt.New(limit); x != nil || code != api.ErrArg {
			t.Errorf("New(%d) = %v, %d, want nil and ErrArg", limit, x, code)
		}
	}
	for _, limit := range []int{1, 2, api.MaxSteps - 1, api.MaxSteps} {
		x, code := prompt.New(limit)
		if x == nil || code != api.OK {
			t.Errorf("New(%d) = %v, %d, want a session and OK", limit, x, code)
			continue
		}
		wantListing(t, x, "")
		if got := x.More(); got != (api.Reply{Kind: api.Idle}) {
			t.Errorf("New(%d), More() = %v, want Idle alone", limit, got)
		}
	}
}

func TestP5Added(t *testing.T) {
	x := holding(t, "", "p(a). q.", " \n", "p(b) :- q.", "p(a).")
	wantListing(t, x, "p(a).\nq.\np(b):-q.\np(a).\n")
}

func TestP5NothingAdded(t *testing.T) {
	x := holding(t, "p. q.")
	for _, text := range []string{"r. s(", "r. s. $", "r. X.", "r. true.", "r. s :- 3.", "r. abcdefghijklm.", "r. s", strings.Repeat("r.", 29), "r." + strings.Repeat(" ", 399)} {
		if code, _ := x.Consult(text); code == api.OK {
			t.Errorf("Consult(%.30q) = OK", text)
		}
		wantListing(t, x, "p.\nq.\n")
	}
	if code, place := x.Consult("t."); code != api.OK || place != 0 {
		t.Errorf("Consult behind errors = %d, %d", code, place)
	}
	wantListing(t, x, "p.\nq.\nt.\n")
}

func TestP5Full(t *testing.T) {
	few := strings.Repeat("p.", api.MaxClauses-1)
	for _, c := range []struct {
		texts []string
		code  api.Errno
		place int
	}{
		{[]string{few + "p."}, api.OK, 0},
		{[]string{few + "p.p."}, api.ErrFull, 0},
		{[]string{strings.Repeat("p.", 200)}, api.ErrFull, 0},
		{[]string{few, "p."}, api.OK, 0},
		{[]string{few, "p.p."}, api.ErrFull, 0},
		{[]string{few, "p.", ""}, api.OK, 0},
		{[]string{few, "p.", "p."}, api.ErrFull, 0},
		// What is wrong with the text is named ahead of what would come of it.
		{[]string{few + "p.p.$"}, api.ErrSyntax, 62},
		{[]string{few, "p.", "q(X)"}, api.ErrSyntax, 4},
		{[]string{few, "p.", "q.3."}, api.ErrHead, 2},
		{[]string{few, "p.", "q." + strings.Repeat(" ", 399)}, api.ErrLong, 0},
	} {
		last := len(c.texts) - 1
		x := holding(t, c.texts[:last]...)
		before := x.Listing()
		code, place := x.Consult(c.texts[last])
		if code != c.code || place != c.place {
			t.Errorf("%.80q: %d, %d, want %d, %d", c.texts, code, place, c.code, c.place)
		}
		if c.code != api.OK {
			wantListing(t, x, before)
		}
	}
}

// A refusal for want of room leaves the room that there is.
func TestP5RoomAfterFull(t *testing.T) {
	x := holding(t, strings.Repeat("p.", api.MaxClauses-1))
	x.Consult("q. r.")
	if code, place := x.Consult("s."); code != api.OK || place != 0 {
		t.Errorf("the last clause: %d, %d", code, place)
	}
	wantListing(t, x, strings.Repeat("p.\n", api.MaxClauses-1)+"s.\n")
}
