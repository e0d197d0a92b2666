// Package image: numbers and words, told as bytes that show by themselves whether they are whole.
//
// An image is its length in four bytes, what it tells, and a sum of all that in four bytes. Because of the length neither a beginning of an image nor one with something behind it is an image. Because of the sum no image is like another but for some of 32 bits that follow one another.
package image

const width = 4 // how many bytes the length has, and the sum

// Writer puts together what an image tells.
type Writer struct {
	told []byte
}

// Number tells a number from 0 on: its digits to the base 128, the lowest first, each but the last with 128 added.
func (w *Writer) Number(value int) {
	for value >= 128 {
		w.told = append(w.told, byte(value%128+128))
		value /= 128
	}
	w.told = append(w.told, byte(value))
}

// Word tells some bytes, their number ahead.
func (w *Writer) Word(word string) {
	w.Number(len(word))
	w.told = append(w.told, word...)
}

// Image is the image of all that has been told.
func (w *Writer) Image() string {
	length := four(uint32(len(w.told) + 2*width))
	image := length + string(w.told)
	return image + four(sum(image))
}

// Reader goes through what an image tells. As soon as something is wrong it reads nothing but zeros and empty words.
type Reader struct {
	rest  string
	wrong bool
}

// Open begins to read some bytes, which may be no image.
func Open(bytes string) *Reader {
	last := len(bytes) - width
	if last < width || bytes[:width] != four(uint32(len(bytes))) {
		return &Reader{wrong: true}
	}
	if bytes[last:] != four(sum(bytes[:last])) {
		return &Reader{wrong: true}
	}
	return &Reader{rest: bytes[width:last]}
}

// Wrong tells whether something was wrong so far.
func (r *Reader) Wrong() bool { return r.wrong }

// Refuse is said of something that can be read but may not be.
func (r *Reader) Refuse() {
	r.rest = ""
	r.wrong = true
}

// Number reads a number that is at most so great.
func (r *Reader) Number(most int) int {
	value := 0
	scale := 1
	for len(r.rest) > 0 {
		digit := int(r.rest[0])
		r.rest = r.rest[1:]
		if digit%128 > (most-value)/scale {
			break
		}
		value += digit % 128 * scale
		if digit < 128 {
			return value
		}
		if scale > most/128 {
			break // any digit behind this one is too great, or is none
		}
		scale *= 128
	}
	r.Refuse()
	return 0
}

// Word reads a word of at most so many bytes: a copy, so that nothing keeps the whole image.
func (r *Reader) Word(most int) string {
	length := r.Number(most)
	if length > len(r.rest) {
		r.Refuse()
		return ""
	}
	word := string([]byte(r.rest[:length]))
	r.rest = r.rest[length:]
	return word
}

// four tells a number in four bytes, the lowest first.
func four(value uint32) string {
	return string([]byte{byte(value), byte(value >> 8), byte(value >> 16), byte(value >> 24)})
}

// polynomial is the one of CRC-32, the highest power in the lowest bit.
const polynomial = 0xEDB88320

// sum is the CRC-32 of some bytes: the rest of a division by the polynomial. A change within 32 bits is too short to be divided by it, so it changes the rest. For that the bits are taken in the order in which they follow one another: the lowest of a byte first, here and in the four bytes of the sum.
func sum(bytes string) uint32 {
	rest := ^uint32(0)
	for i := 0; i < len(bytes); i++ {
		rest ^= uint32(bytes[i])
		for bit := 0; bit < 8; bit++ {
			rest = rest>>1 ^ (rest&1)*polynomial
		}
	}
	return ^rest
}
