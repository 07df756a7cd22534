package sha

import (
	"math/bits"

	"solenoid/api"
)

// How many bytes a block has, a word, and the length that ends the last block.
const (
	size   = 64
	word   = 4
	length = 8
)

// mark stands behind the bytes, ahead of the noughts that fill the last block.
const mark = 0x80

type block [size]byte

type spread [64]uint32

// first is a sum's state ahead of all blocks: of the roots of the primes up to 19, the bits behind the point.
var first = [8]uint32{
	0x6a09e667, 0xbb67ae85, 0x3c6ef372, 0xa54ff53a, 0x510e527f, 0x9b05688c, 0x1f83d9ab, 0x5be0cd19,
}

// steps has a word a round: of the cube roots of the primes up to 311, the bits behind the point.
var steps = spread{
	0x428a2f98, 0x71374491, 0xb5c0fbcf, 0xe9b5dba5, 0x3956c25b, 0x59f111f1, 0x923f82a4, 0xab1c5ed5,
	0xd807aa98, 0x12835b01, 0x243185be, 0x550c7dc3, 0x72be5d74, 0x80deb1fe, 0x9bdc06a7, 0xc19bf174,
	0xe49b69c1, 0xefbe4786, 0x0fc19dc6, 0x240ca1cc, 0x2de92c6f, 0x4a7484aa, 0x5cb0a9dc, 0x76f988da,
	0x983e5152, 0xa831c66d, 0xb00327c8, 0xbf597fc7, 0xc6e00bf3, 0xd5a79147, 0x06ca6351, 0x14292967,
	0x27b70a85, 0x2e1b2138, 0x4d2c6dfc, 0x53380d13, 0x650a7354, 0x766a0abb, 0x81c2c92e, 0x92722c85,
	0xa2bfe8a1, 0xa81a664b, 0xc24b8b70, 0xc76c51a3, 0xd192e819, 0xd6990624, 0xf40e3585, 0x106aa070,
	0x19a4c116, 0x1e376c08, 0x2748774c, 0x34b0bcb5, 0x391c0cb3, 0x4ed8aa4a, 0x5b9cca4f, 0x682e6ff3,
	0x748f82ee, 0x78a5636f, 0x84c87814, 0x8cc70208, 0x90befffa, 0xa4506ceb, 0xbef9a3f7, 0xc67178f2,
}

// summer is a sum on its way. A summer of noughts is sound but for its state: words of noughts are what a block of noughts spreads to.
type summer struct {
	state [8]uint32
	open  block // the block that is not full yet
	n     int   // how many bytes were taken
	last  block // the block that words was spread from
	words spread
}

func (s *summer) take(part []byte) {
	for len(part) > 0 {
		n := copy(s.open[s.n%size:], part)
		s.n += n
		part = part[n:]
		if s.n%size == 0 {
			s.fold()
		}
	}
}

// fold works the full block into the state. What is blank is the same block again and again, and need not be spread each time.
func (s *summer) fold() {
	if s.open != s.last {
		s.last = s.open
		s.words = s.open.spread()
	}
	s.mix()
}

// end fills the last block, and answers the state as bytes.
func (s *summer) end() api.Hash {
	n := 8 * uint64(s.n)
	s.take([]byte{mark})
	s.take(make([]byte, (2*size-length-s.n%size)%size))
	s.take(big(n, length))
	var h api.Hash
	for i, w := range s.state {
		copy(h[word*i:], big(uint64(w), word))
	}
	return h
}

// mix is the rounds: eight letters, as the standard names them.
func (s *summer) mix() {
	a, b, c, d, e, f, g, h := s.state[0], s.state[1], s.state[2], s.state[3], s.state[4], s.state[5], s.state[6], s.state[7]
	for i, w := range s.words {
		x := h + (right(e, 6) ^ right(e, 11) ^ right(e, 25)) + (e&f ^ ^e&g) + steps[i] + w
		y := (right(a, 2) ^ right(a, 13) ^ right(a, 22)) + (a&b ^ a&c ^ b&c)
		a, b, c, d, e, f, g, h = x+y, a, b, c, d+x, e, f, g
	}
	for i, w := range [8]uint32{a, b, c, d, e, f, g, h} {
		s.state[i] += w
	}
}

// spread is a block's words, and those that follow from them.
func (b *block) spread() spread {
	var w spread
	for i := range size / word {
		for _, x := range b[word*i : word*(i+1)] {
			w[i] = w[i]<<8 | uint32(x)
		}
	}
	for i := size / word; i < len(w); i++ {
		x, y := w[i-2], w[i-15]
		x = right(x, 17) ^ right(x, 19) ^ x>>10
		y = right(y, 7) ^ right(y, 18) ^ y>>3
		w[i] = x + w[i-7] + y + w[i-16]
	}
	return w
}

// right is a word turned to the right by n bits.
func right(w uint32, n int) uint32 { return bits.RotateLeft32(w, -n) }

// big is a number's lowest bytes, the highest one of them first.
func big(n uint64, count int) []byte {
	b := make([]byte, count)
	for i := range b {
		b[i] = byte(n >> (8 * (count - 1 - i)))
	}
	return b
}
