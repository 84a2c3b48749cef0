// Package sum is layer 2, digests of bytes: see shared/doc/02-sum.md.
package sum

import (
	"math/bits"
	"strings"
)

// block is how many bytes are worked in at once.
const block = 64

// digits are those that Hex writes with.
const digits = "0123456789abcdef"

// cubeRoots are the words K0 to K63.
var cubeRoots = [64]uint32{
	0x428a2f98, 0x71374491, 0xb5c0fbcf, 0xe9b5dba5, 0x3956c25b, 0x59f111f1, 0x923f82a4, 0xab1c5ed5,
	0xd807aa98, 0x12835b01, 0x243185be, 0x550c7dc3, 0x72be5d74, 0x80deb1fe, 0x9bdc06a7, 0xc19bf174,
	0xe49b69c1, 0xefbe4786, 0x0fc19dc6, 0x240ca1cc, 0x2de92c6f, 0x4a7484aa, 0x5cb0a9dc, 0x76f988da,
	0x983e5152, 0xa831c66d, 0xb00327c8, 0xbf597fc7, 0xc6e00bf3, 0xd5a79147, 0x06ca6351, 0x14292967,
	0x27b70a85, 0x2e1b2138, 0x4d2c6dfc, 0x53380d13, 0x650a7354, 0x766a0abb, 0x81c2c92e, 0x92722c85,
	0xa2bfe8a1, 0xa81a664b, 0xc24b8b70, 0xc76c51a3, 0xd192e819, 0xd6990624, 0xf40e3585, 0x106aa070,
	0x19a4c116, 0x1e376c08, 0x2748774c, 0x34b0bcb5, 0x391c0cb3, 0x4ed8aa4a, 0x5b9cca4f, 0x682e6ff3,
	0x748f82ee, 0x78a5636f, 0x84c87814, 0x8cc70208, 0x90befffa, 0xa4506ceb, 0xbef9a3f7, 0xc67178f2,
}

// words are H0 to H7: a value, so that to go on from them leaves those one went on from as they are.
type words [8]uint32

func squareRoots() words {
	return words{0x6a09e667, 0xbb67ae85, 0x3c6ef372, 0xa54ff53a, 0x510e527f, 0x9b05688c, 0x1f83d9ab, 0x5be0cd19}
}

func Of(s string) string { return finish(squareRoots(), s, len(s)) }

// Writer takes bytes, part by part, and tells their digest. Its words are those
// behind all of its bytes but the rest, which are too few for a block; they have
// no meaning before the first block, so that a Writer of zero values is right, too.
type Writer struct {
	behind words
	rest   string
	n      int
}

func New() *Writer { return &Writer{} }

func (w *Writer) Write(s string) {
	if w == nil {
		return
	}
	all := w.rest + s
	full := len(all) - len(all)%block
	w.behind = absorb(w.now(), all[:full])
	// A copy, so that a long text is not kept for the sake of its end.
	w.rest = strings.Clone(all[full:])
	w.n += len(s)
}

func (w *Writer) Sum() string {
	if w == nil {
		return Of("")
	}
	return finish(w.now(), w.rest, w.n)
}

func (w *Writer) Len() int {
	if w == nil {
		return 0
	}
	return w.n
}

func (w *Writer) now() words {
	if w.n < block {
		return squareRoots()
	}
	return w.behind
}

func Hex(s string) string {
	b := make([]byte, 0, 2*len(s))
	for i := range len(s) {
		b = append(b, digits[s[i]>>4], digits[s[i]&15])
	}
	return string(b)
}

// finish tells the digest of n bytes, of which rest are not worked in yet.
func finish(h words, rest string, n int) string {
	full := len(rest) - len(rest)%block
	h = absorb(h, rest[:full])
	h = absorb(h, rest[full:]+padding(n))
	b := make([]byte, 0, 32)
	for _, x := range h {
		b = append(b, byte(x>>24), byte(x>>16), byte(x>>8), byte(x))
	}
	return string(b)
}

// padding is what is added to n bytes.
func padding(n int) string {
	b := []byte{128}
	for (n+len(b))%block != block-8 {
		b = append(b, 0)
	}
	size := uint64(n) * 8
	for i := range 8 {
		b = append(b, byte(size>>(56-8*i)))
	}
	return string(b)
}

func absorb(h words, s string) words {
	for ; len(s) >= block; s = s[block:] {
		h = mix(h, schedule(s))
	}
	return h
}

// schedule tells W0 to W63 of the first block of s.
func schedule(s string) [64]uint32 {
	var w [64]uint32
	for t := range 16 {
		w[t] = uint32(s[4*t])<<24 | uint32(s[4*t+1])<<16 | uint32(s[4*t+2])<<8 | uint32(s[4*t+3])
	}
	for t := 16; t < len(w); t++ {
		s0 := right(w[t-15], 7) ^ right(w[t-15], 18) ^ w[t-15]>>3
		s1 := right(w[t-2], 17) ^ right(w[t-2], 19) ^ w[t-2]>>10
		w[t] = s1 + w[t-7] + s0 + w[t-16]
	}
	return w
}

func mix(h words, w [64]uint32) words {
	a, b, c, d, e, f, g, z := h[0], h[1], h[2], h[3], h[4], h[5], h[6], h[7]
	for t := range 64 {
		choice := e&f | g&^e
		majority := a&b | a&c | b&c
		t1 := z + (right(e, 6) ^ right(e, 11) ^ right(e, 25)) + choice + cubeRoots[t] + w[t]
		t2 := (right(a, 2) ^ right(a, 13) ^ right(a, 22)) + majority
		a, b, c, d, e, f, g, z = t1+t2, a, b, c, d+t1, e, f, g
	}
	for i, x := range [8]uint32{a, b, c, d, e, f, g, z} {
		h[i] += x
	}
	return h
}

func right(x uint32, by int) uint32 { return bits.RotateLeft32(x, -by) }
