package prompt_test

import (
	"encoding/binary"
	"hash/crc32"
	"math/rand"
	"strconv"
	"strings"
	"testing"

	"prompt/api"
	"prompt/image"
	"prompt/prompt"
)

// keeper is a session that must not be changed by bytes that are no image.
type keeper struct {
	x      *prompt.Session
	before string
}

func keeping(t *testing.T) *keeper {
	t.Helper()
	x := resumed(t, 50, "p(a). p(b). p(c).", "p(X), p(Y).", 1)
	return &keeper{x, x.Save()}
}

func (k *keeper) wantRefused(t *testing.T, bytes string, what string) {
	t.Helper()
	if code := k.x.Load(bytes); code != api.ErrImage {
		t.Fatalf("%s: Load = %d, want ErrImage", what, code)
	}
	if k.x.Save() != k.before {
		t.Fatalf("%s: the session is changed", what)
	}
}

func (k *keeper) wantGoingOn(t *testing.T) {
	t.Helper()
	wantListing(t, k.x, "p(a).\np(b).\np(c).\n")
	wantMore(t, k.x, "X = a, Y = c", "X = b, Y = a")
}

// someImages are of sessions without anything, with clauses, and with a question.
func someImages(t *testing.T) []string {
	t.Helper()
	return []string{
		begun(t).Save(),
		holding(t, "p.").Save(),
		resumed(t, 100, "", "true.", 0).Save(),
		resumed(t, 100, edges, "path(a, X).", 1).Save(),
		resumed(t, 100, three+"p(X, Y) :- d(X), d(Y), !. p(3, -3).", "d(A), p(X, Y), not(d(7)), eq(Z, f(W, W)).", 1).Save(),
	}
}

func flipped(bytes string, at int, mask uint64) string {
	changed := []byte(bytes)
	for n := 0; n < 64; n++ {
		if mask>>n&1 == 1 {
			changed[(at+n)/8] ^= 1 << ((at + n) % 8)
		}
	}
	return string(changed)
}

// Of all changes within 32 bits, at every place: those of one bit and of two, all bits between two, and some others. (Package image tests that none at all goes unseen by the sum.)
func TestP14Bits(t *testing.T) {
	r := rand.New(rand.NewSource(14))
	k := keeping(t)
	for _, image := range someImages(t) {
		bits := 8 * len(image)
		for at := 0; at < bits; at++ {
			for n := 0; n < 32 && at+n < bits; n++ {
				what := "bits changed at " + strconv.Itoa(at) + ", as far as " + strconv.Itoa(n)
				k.wantRefused(t, flipped(image, at, 1|1<<n), what)
				k.wantRefused(t, flipped(image, at, 1<<(n+1)-1), what)
				k.wantRefused(t, flipped(image, at, 1|r.Uint64()&(1<<(n+1)-1)), what)
			}
		}
	}
	k.wantGoingOn(t)
}

func TestP14Beginnings(t *testing.T) {
	k := keeping(t)
	k.wantRefused(t, "", "nothing")
	for _, image := range someImages(t) {
		for n := range image {
			k.wantRefused(t, image[:n], "a beginning")
		}
		for n := 1; n < 300; n++ {
			k.wantRefused(t, image+strings.Repeat("\x00", n), "zeros behind")
			k.wantRefused(t, image+image[:n%len(image)]+"x", "something behind")
		}
		for _, other := range someImages(t) {
			k.wantRefused(t, image+other, "two images")
		}
		k.wantRefused(t, "\x00"+image, "something ahead")
		k.wantRefused(t, image[1:], "an end")
	}
	k.wantGoingOn(t)
}

func TestP14AnyBytes(t *testing.T) {
	r := rand.New(rand.NewSource(15))
	k := keeping(t)
	images := someImages(t)
	for i := 0; i < 50000; i++ {
		bytes := []byte(images[r.Intn(len(images))])
		switch r.Intn(3) {
		case 0:
			bytes = make([]byte, r.Intn(100))
			r.Read(bytes)
		case 1:
			for n := 2 + r.Intn(5); n > 0; n-- {
				bytes[r.Intn(len(bytes))] = byte(r.Intn(256))
			}
		case 2:
			at := r.Intn(len(bytes))
			bytes = append(bytes[:at:at], bytes[min(at+1+r.Intn(4), len(bytes)):]...)
		}
		if code := k.x.Load(string(bytes)); code == api.OK {
			// That may be, by chance: an image was changed into itself.
			if k.x.Save() != string(bytes) {
				t.Fatalf("%q is not what Save gives", bytes)
			}
			k = keeping(t)
			continue
		}
		k.wantRefused(t, string(bytes), "some bytes")
	}
	k.wantGoingOn(t)
}

// made is an image that tells these bytes: all is right with its length and its sum.
func made(told string) string {
	bytes := binary.LittleEndian.AppendUint32(nil, uint32(len(told)+8))
	bytes = append(bytes, told...)
	return string(binary.LittleEndian.AppendUint32(bytes, crc32.ChecksumIEEE(bytes)))
}

// told are the bytes that an image tells.
func told(image string) string { return image[4 : len(image)-4] }

// ofClauses is an image of clauses as they are written here, without a question.
func ofClauses(lines ...string) string {
	w := &image.Writer{}
	w.Number(len(lines))
	for _, line := range lines {
		w.Word(line)
	}
	w.Number(0)
	return w.Image()
}

func TestP14Clauses(t *testing.T) {
	x := begun(t)
	long := "p(" + strings.Repeat("f(", 101) + "abc" + strings.Repeat(")", 101) + ",aaaaaaaaaaaa,bbbbbbbbbbbb,cccccccccc(dddddddddddd,eeeeeeeeeeee,ffffffffffff,gggggggggggg))."
	if len(long) != api.MaxText {
		t.Fatal(len(long))
	}
	var most []string
	for i := 0; i <= api.MaxClauses; i++ {
		most = append(most, "p"+strconv.Itoa(i)+".")
	}
	for _, lines := range [][]string{{}, {"p."}, {"p.", "p."}, {"p(A,b,-3):-q(B,A),!,not(r(C,B))."}, {long}, most[:api.MaxClauses]} {
		wantLoad(t, x, ofClauses(lines...))
		wantListing(t, x, strings.Join(append(lines, ""), "\n"))
	}
	k := keeping(t)
	for _, lines := range [][]string{
		{""}, {"p"}, {"p.q."}, {"p.", ""}, {"", "p."}, {" p."}, {"p. "}, {"p.\n"}, {"p( a)."}, {"p:- q."}, {"p(B)."}, {"p(A,C)."}, {"p(B,A)."}, {"p(X)."}, {"p(_)."}, {"p(007)."}, {"p(-0)."}, {"p(1234567890)."},
		{"true."}, {"eq(A,B)."}, {"!."}, {"3."}, {"A."}, {"p:-."}, {"p:-3."}, {"p:-A."}, {"p(a,b,c,d,e)."}, {"p:-a,b,c,d,e,f,g,h,i."}, {"abcdefghijklm."}, {"p(!)."}, {"p.", "q"}, {"p?"},
		{"p(f(A,B,C,D),f(E,F,G,H),f(I,J,K,L),f(M,N,O,P)):-q(Q)."}, {strings.Replace(long, "abc", "abcd", 1)}, most,
	} {
		k.wantRefused(t, ofClauses(lines...), strings.Join(lines, "|"))
	}
	k.wantGoingOn(t)
}

// What tells a session in other bytes than Save is no image, if all else is right with it.
func TestP14ToldOtherwise(t *testing.T) {
	x := resumed(t, 100, "p(a). p(b). p(c).", "p(X).", 0)
	image := told(x.Save())
	wantLoad(t, x, made(image))
	k := keeping(t)
	if image[0] != 3 {
		t.Fatalf("the image begins with %d, not with the number of its clauses", image[0])
	}
	k.wantRefused(t, made("\x83\x00"+image[1:]), "a number with a digit too many")
	k.wantRefused(t, made("\x83\x80\x00"+image[1:]), "a number with two digits too many")
	for b := 0; b < 256; b++ {
		k.wantRefused(t, made(image+string([]byte{byte(b)})), "a byte behind all")
		if b > 1 {
			k.wantRefused(t, made("\x00"+string([]byte{byte(b)})), "neither a question nor none")
		}
	}
	for n := range image {
		k.wantRefused(t, made(image[:n]), "a beginning")
	}
	k.wantGoingOn(t)
}

// wantKept checks that a session which was loaded, however that came about, keeps its promises.
func wantKept(t *testing.T, r *rand.Rand, x *prompt.Session) {
	t.Helper()
	wantSameAgain(t, x.Listing())
	for i := 0; i < 6; i++ {
		got := x.More()
		wantShape(t, got, "More")
		image := x.Save()
		wantLoad(t, x, image)
		if got.Kind != api.Answer {
			wantMore(t, x, "Idle")
			break
		}
	}
	for i := 0; i < 3; i++ {
		anyCall(r, x)
		wantLoad(t, x, x.Save())
	}
}

// Images in which something was changed, and the sum then made right.
func TestP14Changed(t *testing.T) {
	r := rand.New(rand.NewSource(16))
	k := keeping(t)
	taken := 0
	for _, c := range savings {
		image := told(resumed(t, 100, c.clauses, c.question, 1).Save())
		for i := 0; i < 3000; i++ {
			bytes := []byte(image)
			for n := 1 + r.Intn(3); n > 0; n-- {
				at := r.Intn(len(bytes))
				switch r.Intn(4) {
				case 0:
					bytes[at] = byte(r.Intn(256))
				case 1:
					bytes[at] += byte(r.Intn(3) - 1)
				case 2:
					bytes[at] = bytes[r.Intn(len(bytes))]
				case 3:
					from := r.Intn(len(bytes))
					bytes = append(append(bytes[:at:at], bytes[from:min(from+1+r.Intn(6), len(bytes))]...), bytes[at+r.Intn(2):]...)
				}
			}
			changed := made(string(bytes))
			if k.x.Load(changed) != api.OK {
				k.wantRefused(t, changed, "changed")
				continue
			}
			taken++
			if k.x.Save() != changed {
				t.Fatalf("Save behind Load = %q, want %q", k.x.Save(), changed)
			}
			wantKept(t, r, k.x)
			k = keeping(t)
		}
	}
	if taken < 1000 {
		t.Errorf("only %d of these were images", taken)
	}
}

// teller tells trees as a choice has them, with the variables numbered by where they first stand.
type teller struct {
	image.Writer
	numbers map[int]int
}

func (w *teller) term(n *tree) {
	switch n.kind {
	case 'v':
		if _, is := w.numbers[n.value]; !is {
			w.numbers[n.value] = len(w.numbers)
		}
		w.Number(5)
		w.Number(w.numbers[n.value])
	case 'n':
		w.Number(6)
		w.Number(n.value + api.MaxNumber)
	default:
		w.Number(len(n.args))
		w.Word(n.name)
		for _, arg := range n.args {
			w.term(arg)
		}
	}
}

func (w *teller) goal(n *tree) {
	if n.kind == '!' {
		w.Number(n.value + 1)
		return
	}
	w.Number(0)
	w.term(n)
}

func (w *teller) choice(c opened) {
	w.numbers = map[int]int{}
	w.Number(1 + len(c.behind))
	for _, goal := range append([]*tree{c.goal}, c.behind...) {
		w.goal(goal)
	}
	for _, term := range c.terms {
		w.term(term)
	}
	w.Number(len(c.rules))
}

// someChoice makes up a choice that is the one at a height, if the clauses allow it.
func (m *model) someChoice(r *rand.Rand, height int) (opened, bool) {
	c := opened{goal: somePredicate(r)}
	for range m.names {
		c.terms = append(c.terms, someTerm(r, 2))
	}
	for _, goal := range someGoals(r, 5) {
		if goal.kind == '!' {
			height = r.Intn(height + 1)
			goal.value = height
		}
		c.behind = append(c.behind, goal)
	}
	for _, clause := range m.rules {
		if clause.head.name != c.goal.name || len(clause.head.args) != len(c.goal.args) {
			continue
		}
		if _, _, outcome := m.used(clause, c.goal, c.behind, c.terms, 0); outcome != isFails {
			c.rules = append(c.rules, clause)
		}
	}
	if len(c.rules) < 2 {
		return c, false
	}
	c.rules = c.rules[1+r.Intn(len(c.rules)-1):]
	return c, true
}

// Questions may be told that no text asks for. What is taken for an image is played as the document tells it.
func TestP14MadeUp(t *testing.T) {
	r := rand.New(rand.NewSource(17))
	played := 0
	for i := 0; i < 4000; i++ {
		m, x := someClauses(t, r)
		m.names = []string{"X", "Yy", "Z_1"}[:r.Intn(4)]
		m.past = len(variables)
		for tries := r.Intn(12); tries > 0; tries-- {
			if c, ok := m.someChoice(r, len(m.choices)); ok {
				m.choices = append(m.choices, c)
			}
		}
		image := told(x.Save())
		w := &teller{}
		w.Number(len(m.names))
		for _, name := range m.names {
			w.Word(name)
		}
		w.Number(len(m.choices))
		for _, c := range m.choices {
			w.choice(c)
		}
		wantLoad(t, x, made(image[:len(image)-1]+"\x01"+told(w.Image())))
		for more := 0; more < 12; more++ {
			want := m.play(isFails)
			if got := x.More(); got != want {
				t.Fatalf("%s\nimage %d, More() number %d: %+v, want %+v", x.Listing(), i, more, got, want)
			}
			wantLoad(t, x, x.Save())
			if want.Kind != api.Answer {
				break
			}
			played++
		}
	}
	if played < 1000 {
		t.Errorf("only %d answers", played)
	}
}
