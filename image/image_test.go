package image

import (
	"hash/crc32"
	"math/rand"
	"strings"
	"testing"
)

// telling is an image of numbers.
func telling(numbers ...int) string {
	w := &Writer{}
	for _, n := range numbers {
		w.Number(n)
	}
	return w.Image()
}

// withTold is an image in which just these bytes are told.
func withTold(told string) string {
	w := &Writer{told: []byte(told)}
	return w.Image()
}

func TestNumber(t *testing.T) {
	numbers := []int{0, 1, 2, 126, 127, 128, 129, 255, 256, 16383, 16384, 16385, 2097151, 2097152, 268435455, 268435456, 999999999, 1999999998, 2000000000}
	r := Open(telling(numbers...))
	for _, want := range numbers {
		if got := r.Number(2000000000); got != want || r.Wrong() {
			t.Fatalf("%d was told and %d read (wrong: %v)", want, got, r.Wrong())
		}
	}
	if r.rest != "" {
		t.Errorf("%q is left", r.rest)
	}
	for _, n := range numbers {
		r := Open(telling(n))
		if got := r.Number(n); got != n || r.Wrong() {
			t.Errorf("%d, which is the greatest allowed, is read as %d (wrong: %v)", n, got, r.Wrong())
		}
		if n == 0 {
			continue
		}
		r = Open(telling(n, 0))
		if got := r.Number(n - 1); got != 0 || !r.Wrong() {
			t.Errorf("%d, where at most %d is allowed, is read as %d (wrong: %v)", n, n-1, got, r.Wrong())
		}
	}
}

// Bytes that were made by no Writer are read as some number that is allowed, or refused.
func TestNumberOfAnyBytes(t *testing.T) {
	r := rand.New(rand.NewSource(1))
	for i := 0; i < 20000; i++ {
		told := make([]byte, r.Intn(12))
		for k := range told {
			told[k] = byte(r.Intn(256))
			if r.Intn(2) == 0 {
				told[k] |= 128
			}
		}
		most := r.Intn(2000000000) >> r.Intn(31)
		from := Open(withTold(string(told)))
		if got := from.Number(most); got < 0 || got > most || from.Wrong() && got != 0 {
			t.Fatalf("%q, at most %d: %d (wrong: %v)", told, most, got, from.Wrong())
		}
	}
	for _, told := range []string{"", "\x80", "\xff\xff", strings.Repeat("\x80", 100), strings.Repeat("\x80", 100) + "\x01", strings.Repeat("\xff", 100) + "\x00"} {
		from := Open(withTold(told))
		if got := from.Number(2000000000); got != 0 || !from.Wrong() {
			t.Errorf("%q: %d (wrong: %v)", told, got, from.Wrong())
		}
	}
}

func TestWord(t *testing.T) {
	words := []string{"", "a", "\x00\xff", strings.Repeat("long", 100), "b"}
	w := &Writer{}
	for _, word := range words {
		w.Word(word)
	}
	r := Open(w.Image())
	for _, want := range words {
		if got := r.Word(400); got != want || r.Wrong() {
			t.Fatalf("%q was told and %q read (wrong: %v)", want, got, r.Wrong())
		}
	}
	if got := r.Word(400); got != "" || !r.Wrong() {
		t.Errorf("behind the end: %q (wrong: %v)", got, r.Wrong())
	}
	for _, told := range []string{"\x03ab", "\x05abcdefgh", "\x80", "\x01"} {
		r := Open(withTold(told))
		if got := r.Word(4); got != "" || !r.Wrong() {
			t.Errorf("%q: %q (wrong: %v)", told, got, r.Wrong())
		}
	}
}

// Once something is wrong, nothing more is read.
func TestWrongForGood(t *testing.T) {
	refused := Open(telling(1, 2, 3))
	refused.Refuse()
	tooGreat := Open(telling(9, 2, 3))
	tooGreat.Number(8)
	tooLong := Open(withTold("\x03abc\x01d"))
	tooLong.Word(2)
	for i, r := range []*Reader{Open(""), Open("abcdefgh"), refused, tooGreat, tooLong} {
		for k := 0; k < 3; k++ {
			number := r.Number(100)
			word := r.Word(100)
			if number != 0 || word != "" || !r.Wrong() {
				t.Errorf("reader %d: %d, %q (wrong: %v)", i, number, word, r.Wrong())
			}
		}
	}
}

func TestSum(t *testing.T) {
	r := rand.New(rand.NewSource(2))
	for i := 0; i < 300; i++ {
		bytes := make([]byte, i)
		r.Read(bytes)
		if got, want := sum(string(bytes)), crc32.ChecksumIEEE(bytes); got != want {
			t.Fatalf("sum(%q) = %x, want %x", bytes, got, want)
		}
	}
}

// lack tells how bytes fall short of being an image: 0, if their sum is right.
func lack(bytes []byte) uint32 {
	last := len(bytes) - width
	found := uint32(bytes[last]) | uint32(bytes[last+1])<<8 | uint32(bytes[last+2])<<16 | uint32(bytes[last+3])<<24
	return sum(string(bytes[:last])) ^ found
}

// What is lacking when several bits are changed is what is lacking for each, put together by exclusive or. So if of every 32 bits that follow one another none lacks what some of the others lack together, no change among them goes unseen.
func TestEveryBurst(t *testing.T) {
	for _, image := range []string{telling(), telling(0), telling(1, 2, 3), withTold(strings.Repeat("\x00", 300)), withTold(strings.Repeat("some words", 40))} {
		var lacks []uint32
		for n := 0; n < 8*len(image); n++ {
			bytes := []byte(image)
			bytes[n/8] ^= 1 << (n % 8)
			lacks = append(lacks, lack(bytes))
			if !Open(string(bytes)).Wrong() {
				t.Fatalf("%q is taken for an image", bytes)
			}
		}
		for from := 0; from+32 <= len(lacks); from++ {
			var led [32]uint32 // by its highest bit, one that begins there
			for n, l := range lacks[from : from+32] {
				for bit := 31; bit >= 0 && l != 0; bit-- {
					if l>>bit == 0 {
						continue
					}
					if led[bit] == 0 {
						led[bit] = l
						break
					}
					l ^= led[bit]
				}
				if l == 0 {
					t.Fatalf("%d bytes: bits from %d to %d can be changed without being seen", len(image), from, from+n)
				}
			}
		}
	}
}

// reopened tells whether bytes that are given the right sum are taken for an image.
func reopened(bytes string) bool {
	last := len(bytes) - width
	if last < 0 {
		return !Open(bytes).Wrong()
	}
	return !Open(bytes[:last] + four(sum(bytes[:last]))).Wrong()
}

// A beginning of an image is none, nor is one with something behind it: not even if the sum is right.
func TestLength(t *testing.T) {
	image := telling(1, 20, 300, 4000)
	if !reopened(image) {
		t.Fatalf("%q is no image", image)
	}
	for n := range image {
		if !Open(image[:n]).Wrong() || reopened(image[:n]) {
			t.Errorf("the first %d bytes are an image", n)
		}
	}
	for n := 1; n < 600; n++ {
		behind := image + strings.Repeat("\x00", n)
		if !Open(behind).Wrong() || reopened(behind) {
			t.Errorf("an image with %d bytes behind it is one", n)
		}
	}
}
