package digest

import (
	"math/big"
	"testing"
)

func TestPrimes(t *testing.T) {
	n := int64(2)
	for i, p := range primes {
		for !big.NewInt(n).ProbablyPrime(0) {
			n++
		}
		if int64(p) != n {
			t.Fatal(i, p, n)
		}
		n++
	}
}

// A root is the greatest number whose power is not above the prime.
func TestRoot(t *testing.T) {
	for k, count := range map[uint64]int{2: 8, 3: 64} {
		near := uint64(1) << 32
		for _, p := range primes[:count] {
			near = root(uint64(p), k, near)
			n := new(big.Int).Lsh(big.NewInt(int64(p)), uint(32*k))
			if bigPower(near, k).Cmp(n) > 0 || bigPower(near+1, k).Cmp(n) <= 0 {
				t.Error(p, k, near)
			}
		}
	}
}

func bigPower(r, k uint64) *big.Int {
	return new(big.Int).Exp(new(big.Int).SetUint64(r), new(big.Int).SetUint64(k), nil)
}

func TestNumbers(t *testing.T) {
	s := begin()
	if s.sum != [8]uint32{0x6a09e667, 0xbb67ae85, 0x3c6ef372, 0xa54ff53a, 0x510e527f, 0x9b05688c, 0x1f83d9ab, 0x5be0cd19} {
		t.Errorf("%x", s.sum)
	}
	for i, want := range map[int]uint32{0: 0x428a2f98, 1: 0x71374491, 15: 0xc19bf174, 31: 0x14292967, 63: 0xc67178f2} {
		if s.rounds[i] != want {
			t.Errorf("%d: %x", i, s.rounds[i])
		}
	}
}

// The count of bits has eight bytes, more than what a test can sum needs.
func TestLast(t *testing.T) {
	for _, c := range []struct {
		rest, n int
	}{{0, 64}, {1, 64}, {55, 64}, {56, 128}, {63, 128}} {
		rest := make([]byte, c.rest)
		for i := range rest {
			rest[i] = 9
		}
		end, n := last(rest, 1<<31-1)
		if n != c.n {
			t.Fatal(c.rest, n)
		}
		var want [2 * blockSize]byte
		copy(want[:], rest)
		want[c.rest] = 128
		copy(want[n-8:], []byte{0, 0, 0, 3, 255, 255, 255, 248})
		if end != want {
			t.Error(c.rest, end)
		}
	}
}
