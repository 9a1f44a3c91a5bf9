package digest

import (
	"math/big"
	"testing"
)

func primes(n int) []int64 {
	var out []int64
	for x := int64(2); len(out) < n; x++ {
		if big.NewInt(x).ProbablyPrime(0) {
			out = append(out, x)
		}
	}
	return out
}

// behindPoint: the first 32 bits behind the point of x's root of that power,
// by bisection of whole numbers: no rounding of floats can creep in.
func behindPoint(x, power int64) uint32 {
	scaled := new(big.Int).Lsh(big.NewInt(x), uint(32*power))
	low, high := big.NewInt(0), new(big.Int).Lsh(big.NewInt(x), 32)
	for low.Cmp(high) < 0 {
		middle := new(big.Int).Add(low, high)
		middle.Add(middle, big.NewInt(1)).Rsh(middle, 1)
		if new(big.Int).Exp(middle, big.NewInt(power), nil).Cmp(scaled) <= 0 {
			low = middle
		} else {
			high = middle.Sub(middle, big.NewInt(1))
		}
	}
	return uint32(low.Uint64())
}

// P1.1: the numbers that a sum begins with, and those of its rounds.
func TestTablesAreRootsOfPrimes(t *testing.T) {
	first := firstState()
	for i, p := range primes(len(first)) {
		if want := behindPoint(p, 2); first[i] != want {
			t.Errorf("first number %d: %08X, want %08X", i, first[i], want)
		}
	}
	for i, p := range primes(len(roundKeys)) {
		if want := behindPoint(p, 3); roundKeys[i] != want {
			t.Errorf("round key %d: %08X, want %08X", i, roundKeys[i], want)
		}
	}
}

// P1.1: what comes behind the bytes, at every place of a block.
func TestEndingFillsTheBlock(t *testing.T) {
	for length := range uint64(300) {
		b := ending(length)
		if b[0] != 128 || (length+uint64(len(b)))%blockSize != 0 || len(b) < 9 || len(b) > 72 {
			t.Fatalf("length %d: %x", length, b)
		}
		for _, x := range b[1 : len(b)-8] {
			if x != 0 {
				t.Fatalf("length %d: %x", length, b)
			}
		}
		bits := new(big.Int).SetBytes(b[len(b)-8:])
		if bits.Uint64() != 8*length {
			t.Fatalf("length %d: %d bits", length, bits)
		}
	}
	// So many bytes are too many to be summed here: the number of bits fills
	// more than four bytes.
	if b := ending(1<<31 - 1); b[len(b)-5] != 3 || b[len(b)-4] != 0xFF || b[len(b)-1] != 0xF8 {
		t.Errorf("length 2^31 - 1: %x", b)
	}
}
