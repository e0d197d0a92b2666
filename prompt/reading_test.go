package prompt_test

import (
	"strings"
	"testing"

	"prompt/api"
)

// reading is a text and what consulting it in a new session must answer.
type reading struct {
	text  string
	code  api.Errno
	place int
}

func wantReadings(t *testing.T, readings []reading) {
	t.Helper()
	for _, c := range readings {
		x := begun(t)
		code, place := x.Consult(c.text)
		if code != c.code || place != c.place {
			t.Errorf("Consult(%.90q) = %d, %d, want %d, %d", c.text, code, place, c.code, c.place)
		}
		if c.code != api.OK {
			wantListing(t, x, "")
		}
	}
}

const (
	name12 = "abcdefghijkl"
	name13 = "abcdefghijklm"
	var12  = "Abcdefghijkl"
	var13  = "Abcdefghijklm"
	under  = "_bcdefghijklm"
	// sixteen is a clause with all variables that it may have, but for its end.
	sixteen = "p(A,B,C,D):-q(E,F,G,H),q(I,J,K,L),q(M,N,O,P)"
)

func TestP4Long(t *testing.T) {
	blanks := func(n int) string { return strings.Repeat(" ", n) }
	wantReadings(t, []reading{
		{"p." + blanks(api.MaxText-2), api.OK, 0},
		{"p." + blanks(api.MaxText-1), api.ErrLong, 0},
		{blanks(api.MaxText-2) + "p.", api.OK, 0},
		{blanks(api.MaxText-1) + "p.", api.ErrLong, 0},
		{blanks(api.MaxText), api.OK, 0},
		{blanks(api.MaxText + 1), api.ErrLong, 0},
		{strings.Repeat("\n", api.MaxText+1), api.ErrLong, 0},
		{blanks(100000), api.ErrLong, 0},
		// It is named ahead of all that is wrong in the text.
		{"$" + blanks(api.MaxText), api.ErrLong, 0},
		{"$" + blanks(api.MaxText-1), api.ErrSyntax, 0},
		{name13 + blanks(api.MaxText), api.ErrLong, 0},
		{"X." + blanks(api.MaxText), api.ErrLong, 0},
		{"p" + blanks(api.MaxText-1), api.ErrSyntax, 400},
		{blanks(api.MaxText-1) + "$", api.ErrSyntax, 399},
	})
}

func TestP4Right(t *testing.T) {
	var readings []reading
	for _, text := range []string{
		"", " ", "\n", "p.", "p .", " p.", "p.q.", "p.\nq.\n", "p(a).", "p (a).", "p\n(\na\n)\n.", "p( a,b ,c , d ).",
		"p:-q.", "p :- q , r .", "p:-!.", "p:-!,!.", "p(X):-q(X),!,r(X).", "p:-q(1,-1,X,_).", "p(f(g(h(a,b),X),_)).",
		"p:-true.", "p:-fail,not(q),eq(a,b),less(1,2),plus(1,2,3).", "p:-not(X).", "p:-not(3).", "p:-q(not(X)).", "p(true).", "p(eq(a,b),fail).",
		"true(a).", "true (a).", "fail(a,b).", "not.", "not(a,b).", "eq.", "eq(a).", "eq(a,b,c).", "less.", "less(a).", "less(a,b,c,d).", "plus.", "plus(a).", "plus(a,b).", "plus(a,b,c,d).", "trueX.", "eq_(a,b).", "e(q(a,b)).",
		name12 + ".", "p(" + var12 + ").", "p(_bcdefghijkl).", "p(999999999).", "p(-999999999).", "p(000000000).", "p(-000000001).", "p(-0).",
		"p(a,b,c,d).", "p(f(a,b,c,d),f(a,b,c,d),f(a,b,c,d),f(a,b,c,d)).", "p:-a,b,c,d,e,f,g,h.", "p:-!,!,!,!,!,!,!,!.", "p:-a,b,c,d,e,f,g,h.p:-a,b,c,d,e,f,g,h.",
		sixteen + ".", sixteen + ",q(P,A,B,C).", sixteen + "." + sixteen + ".", "p(_,_,_,_):-q(_,_,_,_),q(_,_,_,_),q(_,_,_,_).", "p(A,B,C,D):-q(E,F,G,H),q(I,J,K,L),q(M,N,O,_).r(Q,R,_,_).",
		"p(_,__,_1,_a).", "pQ_7(aA_0).", "p(A_b9).",
	} {
		readings = append(readings, reading{text, api.OK, 0})
	}
	wantReadings(t, readings)
}

func TestP4Syntax(t *testing.T) {
	wantReadings(t, []reading{
		// Bytes that begin no token.
		{"$", api.ErrSyntax, 0}, {"p$.", api.ErrSyntax, 1}, {"p. $", api.ErrSyntax, 3}, {"p(a,$).", api.ErrSyntax, 4}, {"p:-$.", api.ErrSyntax, 3}, {"p\t.", api.ErrSyntax, 1}, {"p.\r\n", api.ErrSyntax, 2}, {"p(\x00).", api.ErrSyntax, 2}, {"\xc3\xa9.", api.ErrSyntax, 0}, {"p\xc3\xa9.", api.ErrSyntax, 1}, {"p(a;b).", api.ErrSyntax, 3}, {"p. % q", api.ErrSyntax, 3}, {"'p'.", api.ErrSyntax, 0},
		{"-", api.ErrSyntax, 0}, {"p(-).", api.ErrSyntax, 2}, {"p(-", api.ErrSyntax, 2}, {"p(- 1).", api.ErrSyntax, 2}, {"p(-X).", api.ErrSyntax, 2}, {"p(--1).", api.ErrSyntax, 2}, {"p(+1).", api.ErrSyntax, 2}, {"p(1-).", api.ErrSyntax, 3},
		{":", api.ErrSyntax, 0}, {"p:", api.ErrSyntax, 1}, {"p:q.", api.ErrSyntax, 1}, {"p: -q.", api.ErrSyntax, 1}, {"p::-q.", api.ErrSyntax, 1}, {"p(:).", api.ErrSyntax, 2},
		// Tokens that may not stand where they stand.
		{"(", api.ErrSyntax, 0}, {")", api.ErrSyntax, 0}, {",", api.ErrSyntax, 0}, {".", api.ErrSyntax, 0}, {"!", api.ErrSyntax, 0}, {":-", api.ErrSyntax, 0}, {"!.", api.ErrSyntax, 0}, {"!:-p.", api.ErrSyntax, 0}, {":-p.", api.ErrSyntax, 0}, {"(p).", api.ErrSyntax, 0},
		{"p..", api.ErrSyntax, 2}, {"p.,q.", api.ErrSyntax, 2}, {"p.!", api.ErrSyntax, 2}, {"p. :-q.", api.ErrSyntax, 3},
		{"p q.", api.ErrSyntax, 2}, {"p X.", api.ErrSyntax, 2}, {"p 3.", api.ErrSyntax, 2}, {"p).", api.ErrSyntax, 1}, {"p,q.", api.ErrSyntax, 1}, {"p!.", api.ErrSyntax, 1}, {"p-1.", api.ErrSyntax, 1},
		{"p().", api.ErrSyntax, 2}, {"p((a)).", api.ErrSyntax, 2}, {"p(,a).", api.ErrSyntax, 2}, {"p(.", api.ErrSyntax, 2}, {"p(!).", api.ErrSyntax, 2}, {"p(:-).", api.ErrSyntax, 2}, {"p(a,).", api.ErrSyntax, 4}, {"p(a,,b).", api.ErrSyntax, 4}, {"p(a,!).", api.ErrSyntax, 4}, {"p(a,.", api.ErrSyntax, 4}, {"p(a.", api.ErrSyntax, 3}, {"p(a!).", api.ErrSyntax, 3}, {"p(a:-b).", api.ErrSyntax, 3}, {"p(a b).", api.ErrSyntax, 4}, {"p(X Y).", api.ErrSyntax, 4}, {"p(1 2).", api.ErrSyntax, 4}, {"p(1a).", api.ErrSyntax, 3}, {"p(1_).", api.ErrSyntax, 3}, {"p(1-2).", api.ErrSyntax, 3}, {"p(X(a)).", api.ErrSyntax, 3}, {"p(3(a)).", api.ErrSyntax, 3},
		{"p(a))", api.ErrSyntax, 4}, {"p(a)(b).", api.ErrSyntax, 4}, {"p(a)b.", api.ErrSyntax, 4}, {"p(a),q.", api.ErrSyntax, 4}, {"p(f(a).", api.ErrSyntax, 6}, {"p(f(a)(b)).", api.ErrSyntax, 6},
		{"p:-.", api.ErrSyntax, 3}, {"p:-:-q.", api.ErrSyntax, 3}, {"p:-,q.", api.ErrSyntax, 3}, {"p:-(q).", api.ErrSyntax, 3}, {"p:-).", api.ErrSyntax, 3}, {"p:-q,.", api.ErrSyntax, 5}, {"p:-q,,r.", api.ErrSyntax, 5}, {"p:-q r.", api.ErrSyntax, 5}, {"p:-q X.", api.ErrSyntax, 5}, {"p:-q 3.", api.ErrSyntax, 5}, {"p:-q).", api.ErrSyntax, 4}, {"p:-q:-r.", api.ErrSyntax, 4}, {"p:-!!.", api.ErrSyntax, 4}, {"p:-!q.", api.ErrSyntax, 4}, {"p:-!(a).", api.ErrSyntax, 4}, {"p:-q!.", api.ErrSyntax, 4}, {"p:-not(!).", api.ErrSyntax, 7}, {"p:-q(a)(b).", api.ErrSyntax, 7},
	})
}

func TestP4EndsEarly(t *testing.T) {
	const whole = "p(ab, X1 ,-12):-q(f(X1),3), ! , r (a).\n s ( b ) .  "
	inside := strings.Index(whole, ".")
	second := strings.LastIndex(whole, ".")
	for n := 0; n <= len(whole); n++ {
		want := reading{whole[:n], api.ErrSyntax, n}
		begin := strings.TrimRight(whole[:n], " \n")
		switch {
		case begin == "" || len(begin) == inside+1 || len(begin) == second+1:
			want = reading{whole[:n], api.OK, 0}
		case strings.HasSuffix(whole[:n], ":") || strings.HasSuffix(whole[:n], ",-"):
			// Half a token is a byte that begins none.
			want.place = n - 1
		}
		wantReadings(t, []reading{want})
	}
	wantReadings(t, []reading{
		{"p", api.ErrSyntax, 1}, {"p  \n", api.ErrSyntax, 4}, {"p(", api.ErrSyntax, 2}, {"p(a", api.ErrSyntax, 3}, {"p(a,", api.ErrSyntax, 4}, {"p(a)", api.ErrSyntax, 4}, {"p(a) ", api.ErrSyntax, 5}, {"p:-", api.ErrSyntax, 3}, {"p:-q", api.ErrSyntax, 4}, {"p:-q,", api.ErrSyntax, 5}, {"p:-!", api.ErrSyntax, 4}, {"p. q", api.ErrSyntax, 4}, {sixteen, api.ErrSyntax, len(sixteen)}, {"p:-a,b,c,d,e,f,g,h", api.ErrSyntax, 18}, {"p(a,b,c,d", api.ErrSyntax, 9},
	})
}

func TestP4Many(t *testing.T) {
	wantReadings(t, []reading{
		// Too long, also where the token may not stand.
		{name13 + ".", api.ErrMany, 0}, {"p(" + name13 + ").", api.ErrMany, 2}, {"p:-" + name13 + ".", api.ErrMany, 3}, {"p(" + var13 + ").", api.ErrMany, 2}, {"p(" + under + ").", api.ErrMany, 2}, {name13, api.ErrMany, 0}, {strings.Repeat("a", 400), api.ErrMany, 0},
		{"p(1234567890).", api.ErrMany, 2}, {"p(-1234567890).", api.ErrMany, 2}, {"p(0000000001).", api.ErrMany, 2}, {"p(-0000000000).", api.ErrMany, 2}, {"p(" + strings.Repeat("9", 390), api.ErrMany, 2},
		{"p " + name13, api.ErrMany, 2}, {"p(a " + var13, api.ErrMany, 4}, {"p(a) 1234567890", api.ErrMany, 5}, {"p:-q " + name13, api.ErrMany, 5}, {"p:-! " + under, api.ErrMany, 5}, {"p(1 -1234567890", api.ErrMany, 4}, {"p. " + name13, api.ErrMany, 3}, {"p(a,b,c,d " + name13, api.ErrMany, 10},
		// Too long is named ahead of a head or a goal that is none.
		{var13 + ".", api.ErrMany, 0}, {"1234567890.", api.ErrMany, 0}, {"p:-" + var13 + ".", api.ErrMany, 3}, {"p:-1234567890.", api.ErrMany, 3}, {"p:-q,-1234567890.", api.ErrMany, 5},
		// Arguments.
		{"p(a,b,c,d,e).", api.ErrMany, 9}, {"p(a,b,c,d,", api.ErrMany, 9}, {"p(a,b,c,d,$", api.ErrMany, 9}, {"p(a,b,c,d ,)", api.ErrMany, 10}, {"p(f(a,b,c,d),f(a,b,c,d,e)).", api.ErrMany, 22}, {"p(f(a,b,c,d),b,c,d,e).", api.ErrMany, 18}, {"p:-q(a,b,c,d,e).", api.ErrMany, 12}, {"plus(a,b,c,d,e).", api.ErrMany, 12}, {"p(A,B,C,D,E).", api.ErrMany, 9},
		// Goals.
		{"p:-a,b,c,d,e,f,g,h,i.", api.ErrMany, 18}, {"p:-a,b,c,d,e,f,g,h,", api.ErrMany, 18}, {"p:-a,b,c,d,e,f,g,h,$", api.ErrMany, 18}, {"p:-!,!,!,!,!,!,!,!,!.", api.ErrMany, 18}, {"p:-a,b,c,d,e,f,g,h(a) ,X", api.ErrMany, 22},
		// Variables.
		{sixteen + ",q(Q).", api.ErrMany, 47}, {sixteen + ",q(_).", api.ErrMany, 47}, {sixteen + ",q(A,_).", api.ErrMany, 49}, {sixteen + ",q(Q$", api.ErrMany, 47}, {"p(_,_,_,_):-q(_,_,_,_),q(_,_,_,_),q(_,_,_,_),q(_).", api.ErrMany, 47}, {"p(_,_,_,_):-q(_,_,_,_),q(_,_,_,_),q(_,_,_,_),q(X).", api.ErrMany, 47},
		{"p(f(A,B,C,D),f(E,F,G,H),f(I,J,K,L),f(M,N,O,f(P,Q))).", api.ErrMany, 47}, {"eq(f(A,B,C,D),f(f(E,F,G,H),f(I,J,K,L),f(M,N,O,P),Q)).", api.ErrMany, 49}, {"r(X,Y)." + sixteen + ",q(Q).", api.ErrMany, 54},
		// One variable too many is named behind a token that may not stand there, ahead of a goal that is none.
		{sixteen + " Q.", api.ErrSyntax, 45}, {sixteen + ",q(A Q).", api.ErrSyntax, 49}, {sixteen + ",Q.", api.ErrMany, 45}, {sixteen + ",_.", api.ErrMany, 45}, {sixteen + ",P.", api.ErrGoal, 45}, {sixteen + ",7.", api.ErrGoal, 45},
	})
}

func TestP4Head(t *testing.T) {
	wantReadings(t, []reading{
		{"X.", api.ErrHead, 0}, {"_.", api.ErrHead, 0}, {"_x:-p.", api.ErrHead, 0}, {"3.", api.ErrHead, 0}, {"-3.", api.ErrHead, 0}, {" 0:-p.", api.ErrHead, 1}, {"p.X.", api.ErrHead, 2}, {"p:-q.\n7.", api.ErrHead, 6}, {var12 + ".", api.ErrHead, 0}, {"999999999.", api.ErrHead, 0},
		// Nothing behind such a first token is read.
		{"X", api.ErrHead, 0}, {"X$", api.ErrHead, 0}, {"X(a).", api.ErrHead, 0}, {"3 " + name13, api.ErrHead, 0}, {"3a.", api.ErrHead, 0}, {"1-", api.ErrHead, 0},
		// Predicates that are built in.
		{"true.", api.ErrHead, 0}, {"fail.", api.ErrHead, 0}, {"not(a).", api.ErrHead, 0}, {"eq(a,b).", api.ErrHead, 0}, {"less(a,b).", api.ErrHead, 0}, {"plus(a,b,c).", api.ErrHead, 0}, {"true:-p.", api.ErrHead, 0}, {"not(X):-X.", api.ErrHead, 0}, {"p. eq(X,X).", api.ErrHead, 3}, {"p:-q. \n plus(X,Y,Z):-p.", api.ErrHead, 8}, {"not ( p ) .", api.ErrHead, 0},
		// They are found at the head's end, ahead of what is behind it.
		{"true", api.ErrHead, 0}, {"true ", api.ErrHead, 0}, {"fail$", api.ErrHead, 0}, {"true " + name13, api.ErrHead, 0}, {"true)", api.ErrHead, 0}, {"true X", api.ErrHead, 0}, {"fail\n:", api.ErrHead, 0}, {"eq(a,b)", api.ErrHead, 0}, {"eq(a,b)(c)", api.ErrHead, 0}, {"eq(a,b)$", api.ErrHead, 0}, {"not(a) 1234567890", api.ErrHead, 0}, {"less(1,2):-$", api.ErrHead, 0},
		// What is wrong within the head comes ahead of its end.
		{"eq(a,$", api.ErrSyntax, 5}, {"eq(a,b", api.ErrSyntax, 6}, {"eq(a b).", api.ErrSyntax, 5}, {"true(", api.ErrSyntax, 5}, {"true (", api.ErrSyntax, 6}, {"true().", api.ErrSyntax, 5}, {"true ($", api.ErrSyntax, 6}, {"fail \n (1,!", api.ErrSyntax, 10}, {"not(" + name13 + ").", api.ErrMany, 4}, {"not(a", api.ErrSyntax, 5},
	})
}

func TestP4Goal(t *testing.T) {
	wantReadings(t, []reading{
		{"p:-X.", api.ErrGoal, 3}, {"p:-_.", api.ErrGoal, 3}, {"p:-3.", api.ErrGoal, 3}, {"p:- -3.", api.ErrGoal, 4}, {"p:--3.", api.ErrGoal, 3}, {"p:-q,X.", api.ErrGoal, 5}, {"p:-!,0.", api.ErrGoal, 5}, {"p(X):-X.", api.ErrGoal, 6}, {"p.q:-r,s(X),\nX.", api.ErrGoal, 13}, {"p:-a,b,c,d,e,f,g,H.", api.ErrGoal, 17},
		// Nothing behind such a token is read.
		{"p:-X", api.ErrGoal, 3}, {"p:-X$", api.ErrGoal, 3}, {"p:-X(a).", api.ErrGoal, 3}, {"p:-3 " + name13, api.ErrGoal, 3}, {"p:-3a.", api.ErrGoal, 3},
	})
}

// The first thing that is wrong is told, whatever else is wrong behind it.
func TestP4First(t *testing.T) {
	wantReadings(t, []reading{
		{"p q. X. p:-Y.", api.ErrSyntax, 2}, {"X. p q.", api.ErrHead, 0}, {"p:-Y. p q.", api.ErrGoal, 3}, {name13 + " $", api.ErrMany, 0}, {"$ " + name13, api.ErrSyntax, 0}, {"p:-q. p:-3. 3.", api.ErrGoal, 9}, {"p:-q. 3. p:-3.", api.ErrHead, 6}, {"p(a,b,c,d,e):-X.", api.ErrMany, 9},
	})
}

// Each byte, where a clause, an argument, or more of a name might begin.
func TestP4EachByte(t *testing.T) {
	isIn := func(c byte, set string) bool { return strings.IndexByte(set, c) >= 0 }
	const small = "abcdefghijklmnopqrstuvwxyz"
	const great = "ABCDEFGHIJKLMNOPQRSTUVWXYZ"
	for i := 0; i < 256; i++ {
		c := byte(i)
		b := string([]byte{c})
		blank := isIn(c, " \n")
		alone := reading{b, api.ErrSyntax, 0}
		switch {
		case blank:
			alone.code = api.OK
		case isIn(c, small):
			alone.place = 1
		case isIn(c, great+"_0123456789"):
			alone.code = api.ErrHead
		}
		argument := reading{"p(" + b + ").", api.ErrSyntax, 2}
		switch {
		case blank:
			argument.place = 3
		case isIn(c, small+great+"_0123456789"):
			argument.code, argument.place = api.OK, 0
		}
		more := reading{"p(a" + b + ").", api.ErrSyntax, 3}
		switch {
		case blank || isIn(c, small+great+"_0123456789"):
			more.code, more.place = api.OK, 0
		case isIn(c, "(),"):
			more.place = 4
		}
		wantReadings(t, []reading{alone, argument, more})
	}
}

func TestP4Examples(t *testing.T) {
	wantReadings(t, []reading{
		{"p(a) :- q. eq(a, b).", api.ErrHead, 11}, {"3.", api.ErrHead, 0}, {"p:-.", api.ErrSyntax, 3}, {"p(A,B,C,D,E).", api.ErrMany, 9}, {"loop :- loop.", api.OK, 0},
	})
}
