package digest

import "math/bits"

// primes are the first 64.
var primes = [64]uint16{
	2, 3, 5, 7, 11, 13, 17, 19, 23, 29, 31, 37, 41, 43, 47, 53,
	59, 61, 67, 71, 73, 79, 83, 89, 97, 101, 103, 107, 109, 113, 127, 131,
	137, 139, 149, 151, 157, 163, 167, 173, 179, 181, 191, 193, 197, 199, 211, 223,
	227, 229, 233, 239, 241, 251, 257, 263, 269, 271, 277, 281, 283, 293, 307, 311,
}

// roots fills to with the first 32 bits of the fractions of the k-th roots of the first primes, k being 2 or 3.
func roots(to []uint32, k uint64) {
	r := uint64(1) << 32
	for i := range to {
		r = root(uint64(primes[i]), k, r)
		to[i] = uint32(r)
	}
}

// root is the k-th root of p, in parts of 2^32, without what is behind them. near is the last prime's root, which is the nearest number known: neighbours' roots begin alike, so that three times are enough (the tests hold each root against the exact one).
func root(p, k, near uint64) uint64 {
	r := near
	for range 3 {
		r = nearer(r, p, k)
	}
	return r
}

// nearer has thrice as many bits that are those of p's k-th root as r has (Halley's rule).
func nearer(r, p, k uint64) uint64 {
	const parts = 51 // bits behind the point, of the powers; ahead of it the sums below have 11, so that one word holds all
	m := power(r, k).down(32*k - parts)
	n := p << parts
	hi, lo := bits.Mul64((k-1)*m+(k+1)*n, r)
	r, _ = bits.Div64(hi, lo, (k+1)*m+(k-1)*n)
	return r
}

// two is a number of two words.
type two struct{ hi, lo uint64 }

func power(r, k uint64) two {
	n := two{lo: r}
	for range k - 1 {
		n = n.times(r)
	}
	return n
}

func (n two) times(m uint64) two {
	hi, lo := bits.Mul64(n.lo, m)
	return two{n.hi*m + hi, lo}
}

// down is n without its last by bits, where one word holds that.
func (n two) down(by uint64) uint64 {
	return n.hi<<(64-by) | n.lo>>by
}
