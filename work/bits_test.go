package work_test

import (
	"math/big"
	"math/rand"
	"testing"

	"byname/api"
	"byname/work"
)

// Errors, Limits: the numbers that the document gives.
func TestNumbers(t *testing.T) {
	if api.ErrWork != 121 || api.OK != 0 {
		t.Error(api.ErrWork, api.OK)
	}
	if api.Easiest != 545259519 || api.Retarget != 8 || api.Spacing != 600 {
		t.Error(api.Easiest, api.Retarget, api.Spacing)
	}
}

// P12.1: written out.
func TestExpandWritten(t *testing.T) {
	for _, c := range []struct {
		bits uint32
		t    api.Wide
		e    api.Errno
	}{
		// Where E is 3 or less, M is divided, and rounded down.
		{0x03000001, api.Wide{1}, 0},
		{0x037FFFFF, api.Wide{0x7FFFFF}, 0},
		{0x02000100, api.Wide{1}, 0},
		{0x020001FF, api.Wide{1}, 0},
		{0x027FFFFF, api.Wide{0x7FFF}, 0},
		{0x01010000, api.Wide{1}, 0},
		{0x0101FFFF, api.Wide{1}, 0},
		{0x017FFFFF, api.Wide{0x7F}, 0},
		// Where E is more, M is multiplied.
		{0x04000001, api.Wide{0x100}, 0},
		{0x047FFFFF, api.Wide{0x7FFFFF00}, 0},
		{0x08123456, api.Wide{0x1234560000000000}, 0},
		{0x09123456, api.Wide{0x3456000000000000, 0x12}, 0},
		{0x0A123456, api.Wide{0x5600000000000000, 0x1234}, 0},
		{0x0B123456, api.Wide{0, 0x123456}, 0},
		{0x1B0404CB, api.Wide{0, 0, 0, 0x0404CB}, 0},
		{0x1D00FFFF, api.Wide{0, 0, 0, 0xFFFF0000}, 0},
		{0x20000001, api.Wide{0, 0, 0, 1 << 40}, 0},
		{0x207FFFFE, api.Wide{0, 0, 0, 0x7FFFFE << 40}, 0},
		{0x207FFFFF, api.Wide{0, 0, 0, 0x7FFFFF << 40}, 0},
		// E more than 32, but no more than the easiest one.
		{0x21000001, api.Wide{0, 0, 0, 1 << 48}, 0},
		{0x21007FFF, api.Wide{0, 0, 0, 0x7FFF << 48}, 0},
		{0x22000001, api.Wide{0, 0, 0, 1 << 56}, 0},
		{0x2200007F, api.Wide{0, 0, 0, 0x7F << 56}, 0},

		// The bit 23 is set.
		{0x00800000, api.Wide{}, 121},
		{0x03800001, api.Wide{}, 121},
		{0x03FFFFFF, api.Wide{}, 121},
		{0x1D80FFFF, api.Wide{}, 121},
		{0x20FFFFFF, api.Wide{}, 121},
		{0xFFFFFFFF, api.Wide{}, 121},
		// The number is 0.
		{0x00000000, api.Wide{}, 121},
		{0x007FFFFF, api.Wide{}, 121},
		{0x0100FFFF, api.Wide{}, 121},
		{0x020000FF, api.Wide{}, 121},
		{0x03000000, api.Wide{}, 121},
		{0x04000000, api.Wide{}, 121},
		{0x20000000, api.Wide{}, 121},
		{0xFF000000, api.Wide{}, 121},
		// Above the easiest one.
		{0x21008000, api.Wide{}, 121},
		{0x2100FFFF, api.Wide{}, 121},
		{0x22000080, api.Wide{}, 121},
		{0x220000FF, api.Wide{}, 121},
		// More than 256 bits: M, or some of it, is beyond them.
		{0x21010000, api.Wide{}, 121},
		{0x21010001, api.Wide{}, 121},
		{0x217FFFFF, api.Wide{}, 121},
		{0x22000100, api.Wide{}, 121},
		{0x22000101, api.Wide{}, 121},
		{0x23000001, api.Wide{}, 121},
		{0x24000001, api.Wide{}, 121},
		{0x40000001, api.Wide{}, 121},
		{0xFF000001, api.Wide{}, 121},
		{0xFF7FFFFF, api.Wide{}, 121},
	} {
		if got, e := work.Expand(c.bits); got != c.t || e != c.e {
			t.Errorf("%08x: %x, error %d, want %x, error %d", c.bits, got, e, c.t, c.e)
		}
		holdBits(t, c.bits)
	}
}

// P12.1, P12.2, P12.3: each E, with the edges of M.
func TestBits(t *testing.T) {
	seen := map[api.Errno]int{}
	for _, bits := range manyBits() {
		seen[holdBits(t, bits)]++
	}
	if seen[0] < 900 || seen[121] < 900 || len(seen) != 2 {
		t.Error(seen)
	}
}

// P12.1, P12.2, P12.3: mixed ones.
func TestBitsMixed(t *testing.T) {
	r := rand.New(rand.NewSource(121))
	for range 20000 {
		holdBits(t, r.Uint32())
		holdBits(t, uint32(r.Intn(0x25))<<24|r.Uint32()>>(8+r.Intn(24)))
	}
}

// P12.2: written out.
func TestCompactWritten(t *testing.T) {
	for _, c := range []struct {
		t    api.Wide
		bits uint32
	}{
		{api.Wide{}, 0},
		{api.Wide{1}, 0x01010000},
		{api.Wide{0x7F}, 0x017F0000},
		{api.Wide{0x80}, 0x02008000},
		{api.Wide{0xFF}, 0x0200FF00},
		{api.Wide{0x100}, 0x02010000},
		{api.Wide{0x1234}, 0x02123400},
		{api.Wide{0x7FFF}, 0x027FFF00},
		{api.Wide{0x8000}, 0x03008000},
		{api.Wide{0xFFFF}, 0x0300FFFF},
		{api.Wide{0x10000}, 0x03010000},
		{api.Wide{0x7FFFFF}, 0x037FFFFF},
		{api.Wide{0x800000}, 0x04008000},
		{api.Wide{0x8000FF}, 0x04008000},
		{api.Wide{0xFFFFFF}, 0x0400FFFF},
		{api.Wide{0x1000000}, 0x04010000},
		{api.Wide{0x7FFFFFFF}, 0x047FFFFF},
		{api.Wide{0x80000000}, 0x05008000},
		{api.Wide{1 << 63}, 0x09008000},
		{api.Wide{0xFFFFFFFFFFFFFFFF}, 0x0900FFFF},
		{api.Wide{0, 1}, 0x09010000},
		{api.Wide{0x3456789A00000000, 0x12}, 0x09123456},
		{api.Wide{0, 0, 0, 0xFFFF0000}, 0x1D00FFFF},
		{api.Wide{0, 0, 0, 0x0404CB}, 0x1B0404CB},
		{api.Wide{0, 0, 0, 0x7FFFFF << 40}, 0x207FFFFF},
		{api.Wide{9, 9, 9, 0x7FFFFFFFFFFFFFFF}, 0x207FFFFF},
		{api.Wide{0, 0, 0, 1 << 63}, 0x21008000},
		{api.Wide{1<<64 - 1, 1<<64 - 1, 1<<64 - 1, 1<<64 - 1}, 0x2100FFFF},
	} {
		if got := work.Compact(c.t); got != c.bits {
			t.Errorf("%x: %08x, want %08x", c.t, got, c.bits)
		}
		holdCompact(t, c.t)
	}
}

// P12.2: each number of few bits, wherever they stand, and one less and more.
func TestCompactEdges(t *testing.T) {
	for size := range uint(257) {
		for _, few := range []int64{0, 1, 0x7F, 0x80, 0x81, 0xFF, 0x7FFF, 0x8000, 0x7FFFFF, 0x800000, 0x800001, 0xFFFFFF, 0x7FFFFFFF, 0xFFFFFFFF} {
			n := new(big.Int).Lsh(big.NewInt(few), size)
			for range 3 {
				holdCompact(t, fromBig(new(big.Int).Mod(new(big.Int).Sub(n, big.NewInt(1)), whole)))
				n.Add(n, big.NewInt(1)).Mod(n, whole)
			}
		}
	}
}

// P12.2: mixed ones, of all sizes.
func TestCompactMixed(t *testing.T) {
	r := rand.New(rand.NewSource(122))
	for range 20000 {
		n := new(big.Int).Rand(r, whole)
		holdCompact(t, fromBig(n.Rsh(n, uint(r.Intn(257)))))
	}
}

// FuzzBits: BITS, and how the next ones hang on them.
func FuzzBits(f *testing.F) {
	for _, bits := range []uint32{0, 0x01010000, 0x0101FFFF, 0x03123456, 0x04923456, 0x1D00FFFF, easiest, 0x21008000, 0x2200007F, 0xFF000001} {
		f.Add(bits, uint32(1000000000), uint32(1000004200))
		f.Add(bits, uint32(1000004200), uint32(1000000000))
		f.Add(bits, uint32(0), uint32(0xFFFFFFFF))
	}
	f.Fuzz(func(t *testing.T, bits, first, last uint32) {
		holdBits(t, bits)
		holdBits(t, holdNext(t, bits, first, last))
		holdMeets(t, api.Head{Bits: bits, Time: first, Nonce: last})
	})
}

// FuzzCompact: any number.
func FuzzCompact(f *testing.F) {
	f.Add(uint64(0), uint64(0), uint64(0), uint64(0))
	f.Add(uint64(0x80), uint64(0), uint64(0), uint64(0))
	f.Add(uint64(0), uint64(0), uint64(0), uint64(0x7FFFFF<<40))
	f.Fuzz(func(t *testing.T, a, b, c, d uint64) { holdCompact(t, api.Wide{a, b, c, d}) })
}
