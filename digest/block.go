package digest

import "math/bits"

const blockSize = 64

// state is what a sum has come to, and the numbers of all rounds: they are the same for each block, and so are reckoned once a text.
type state struct {
	sum    [8]uint32
	rounds [64]uint32
}

func begin() *state {
	s := new(state)
	roots(s.sum[:], 2)
	roots(s.rounds[:], 3)
	return s
}

// last is what is summed behind the last whole block, in its first n bytes. It is made apart, as b's spare room is not ours.
func last(rest []byte, length int) (end [2 * blockSize]byte, n int) {
	n = blockSize
	if len(rest)+1 > blockSize-8 {
		n = 2 * blockSize
	}
	copy(end[:], rest)
	end[len(rest)] = 128
	count := uint64(length) * 8
	for i := range 8 {
		end[n-1-i] = byte(count >> (8 * i))
	}
	return end, n
}

// take sums blocks, which b has nothing but.
func (s *state) take(b []byte) {
	for ; len(b) > 0; b = b[blockSize:] {
		s.mix(words(b))
	}
}

// words are the 64 words of the block that b begins with.
func words(b []byte) (w [64]uint32) {
	for t := range 16 {
		w[t] = uint32(b[4*t])<<24 | uint32(b[4*t+1])<<16 | uint32(b[4*t+2])<<8 | uint32(b[4*t+3])
	}
	for t := 16; t < len(w); t++ {
		w[t] = turn(w[t-2], 17) ^ turn(w[t-2], 19) ^ w[t-2]>>10
		w[t] += w[t-7]
		w[t] += turn(w[t-15], 7) ^ turn(w[t-15], 18) ^ w[t-15]>>3
		w[t] += w[t-16]
	}
	return w
}

func (s *state) mix(w [64]uint32) {
	a, b, c, d := s.sum[0], s.sum[1], s.sum[2], s.sum[3]
	e, f, g, h := s.sum[4], s.sum[5], s.sum[6], s.sum[7]
	for t := range w {
		x := h + (turn(e, 6) ^ turn(e, 11) ^ turn(e, 25)) + (e&f ^ ^e&g) + s.rounds[t] + w[t]
		y := (turn(a, 2) ^ turn(a, 13) ^ turn(a, 22)) + (a&b ^ a&c ^ b&c)
		h, g, f, e = g, f, e, d+x
		d, c, b, a = c, b, a, x+y
	}
	for i, v := range [8]uint32{a, b, c, d, e, f, g, h} {
		s.sum[i] += v
	}
}

// turn turns a word to the right.
func turn(w uint32, n int) uint32 {
	return bits.RotateLeft32(w, -n)
}

func (s *state) told() (b [size]byte) {
	for i := range b {
		b[i] = byte(s.sum[i/4] >> (24 - i%4*8))
	}
	return b
}
