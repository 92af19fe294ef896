// Package digest is layer 1: names of bytes, by SHA-256. See shared/doc/01-digest.md.
package digest

import (
	"math/bits"
	"strings"

	"trailhead/api"
)

// Size is how many bytes a name has; block how many are taken at a time.
const (
	Size  = 32
	block = 64
)

// words is how many words the state has, tail how many bytes tell how long a text is, digits what a name is shown by.
const (
	words  = Size / 4
	tail   = 8
	digits = "0123456789abcdef"
)

// start is the state ahead of all bytes: the first 32 bits behind the point of the square roots of the first eight primes.
var start = [words]uint32{
	0x6a09e667, 0xbb67ae85, 0x3c6ef372, 0xa54ff53a, 0x510e527f, 0x9b05688c, 0x1f83d9ab, 0x5be0cd19,
}

// rounds are the words k: the first 32 bits behind the point of the cube roots of the first 64 primes.
var rounds = [block]uint32{
	0x428a2f98, 0x71374491, 0xb5c0fbcf, 0xe9b5dba5, 0x3956c25b, 0x59f111f1, 0x923f82a4, 0xab1c5ed5,
	0xd807aa98, 0x12835b01, 0x243185be, 0x550c7dc3, 0x72be5d74, 0x80deb1fe, 0x9bdc06a7, 0xc19bf174,
	0xe49b69c1, 0xefbe4786, 0x0fc19dc6, 0x240ca1cc, 0x2de92c6f, 0x4a7484aa, 0x5cb0a9dc, 0x76f988da,
	0x983e5152, 0xa831c66d, 0xb00327c8, 0xbf597fc7, 0xc6e00bf3, 0xd5a79147, 0x06ca6351, 0x14292967,
	0x27b70a85, 0x2e1b2138, 0x4d2c6dfc, 0x53380d13, 0x650a7354, 0x766a0abb, 0x81c2c92e, 0x92722c85,
	0xa2bfe8a1, 0xa81a664b, 0xc24b8b70, 0xc76c51a3, 0xd192e819, 0xd6990624, 0xf40e3585, 0x106aa070,
	0x19a4c116, 0x1e376c08, 0x2748774c, 0x34b0bcb5, 0x391c0cb3, 0x4ed8aa4a, 0x5b9cca4f, 0x682e6ff3,
	0x748f82ee, 0x78a5636f, 0x84c87814, 0x8cc70208, 0x90befffa, 0xa4506ceb, 0xbef9a3f7, 0xc67178f2,
}

// Hasher is what has been taken up to now: the state behind all whole blocks, the bytes that don't fill one yet, and how many bytes were taken in all.
type Hasher struct {
	state [words]uint32
	rest  [block]byte
	taken uint64
}

// New: nothing was taken.
func New() *Hasher {
	h := new(Hasher)
	for i := range words {
		h.state[i] = start[i]
	}
	return h
}

// Write: more bytes are taken.
func (h *Hasher) Write(parts ...string) {
	if h == nil {
		return
	}
	for _, part := range parts {
		h.take(part)
	}
}

// Sum: the name of all that was taken; more may be taken behind it.
func (h *Hasher) Sum() api.Hash {
	if h == nil {
		return api.Hash{}
	}
	end := *h // the end is taken by a copy, so that more may be taken by h itself
	end.take(ending(h.taken))
	return end.name()
}

// Of: the name of texts, one behind the other; Double: the name of that name.
func Of(parts ...string) api.Hash {
	h := New()
	h.Write(parts...)
	return h.Sum()
}

func Double(parts ...string) api.Hash {
	inner := Of(parts...)
	return Of(string(inner[:]))
}

// Show: a name's digits, its last byte first; Parse: the name of such digits; ErrForm.
func Show(h api.Hash) string {
	out := make([]byte, 0, 2*Size)
	for i := Size - 1; i >= 0; i-- {
		out = append(out, digits[h[i]>>4], digits[h[i]&15])
	}
	return string(out)
}

func Parse(s string) (api.Hash, api.Errno) {
	if len(s) != 2*Size {
		return api.Hash{}, api.ErrForm
	}
	var h api.Hash
	for i, r := range s {
		value, ok := digit(r)
		if !ok {
			return api.Hash{}, api.ErrForm
		}
		at := Size - 1 - i/2
		h[at] = h[at]<<4 | value
	}
	return h, api.OK
}

// digit: what a digit is worth; false: it is none.
func digit(r rune) (byte, bool) {
	switch {
	case r >= '0' && r <= '9':
		return byte(r - '0'), true
	case r >= 'a' && r <= 'f':
		return byte(r - 'a' + 10), true
	}
	return 0, false
}

// take puts a text's bytes behind the rest, and works each block in as it gets full.
func (h *Hasher) take(text string) {
	for len(text) > 0 {
		n := copy(h.rest[h.taken%block:], text)
		h.taken += uint64(n)
		text = text[n:]
		if h.taken%block == 0 {
			h.stir()
		}
	}
}

// ending: what stands behind a text of so many bytes, so that all fills whole blocks.
func ending(taken uint64) string {
	noughts := (2*block - 1 - tail - taken%block) % block
	length := make([]byte, tail)
	for i := range tail {
		length[i] = byte(taken * 8 >> (8 * (tail - 1 - i)))
	}
	return "\x80" + strings.Repeat("\x00", int(noughts)) + string(length)
}

// stir works the block that is full into the state. (Eight words by name: they go through registers, an array of eight doesn't.)
func (h *Hasher) stir() {
	w := spread(h.rest)
	s0, s1, s2, s3 := h.state[0], h.state[1], h.state[2], h.state[3]
	s4, s5, s6, s7 := h.state[4], h.state[5], h.state[6], h.state[7]
	for i := range block {
		x := s7 + threeTurns(s4, 6, 11, 25) + (s4&s5 | ^s4&s6) + rounds[i] + w[i]
		y := threeTurns(s0, 2, 13, 22) + (s0&s1 | s0&s2 | s1&s2)
		s0, s1, s2, s3, s4, s5, s6, s7 = x+y, s0, s1, s2, s3+x, s4, s5, s6
	}
	for i, word := range [words]uint32{s0, s1, s2, s3, s4, s5, s6, s7} {
		h.state[i] += word
	}
}

// spread: the words w of a block: sixteen of its bytes, the others of those ahead.
func spread(bytes [block]byte) [block]uint32 {
	var w [block]uint32
	for i := range 16 {
		for _, b := range bytes[4*i : 4*i+4] {
			w[i] = w[i]<<8 | uint32(b)
		}
	}
	for i := 16; i < block; i++ {
		a := turned(w[i-15], 7) ^ turned(w[i-15], 18) ^ w[i-15]>>3
		b := turned(w[i-2], 17) ^ turned(w[i-2], 19) ^ w[i-2]>>10
		w[i] = w[i-16] + a + w[i-7] + b
	}
	return w
}

// turned: a word turned right.
func turned(word uint32, by int) uint32 {
	return bits.RotateLeft32(word, -by)
}

// threeTurns: exclusive or of a word turned right by each of three.
func threeTurns(word uint32, a, b, c int) uint32 {
	return turned(word, a) ^ turned(word, b) ^ turned(word, c)
}

// name: the state's words as bytes.
func (h *Hasher) name() api.Hash {
	var out api.Hash
	for i, word := range h.state {
		for j := range 4 {
			out[4*i+j] = byte(word >> (24 - 8*j))
		}
	}
	return out
}
