package work_test

import (
	"crypto/sha256"
	"encoding/binary"
	"math/big"
	"slices"
	"testing"

	"byname/api"
	"byname/work"
)

const easiest = 0x207FFFFF

var whole = new(big.Int).Lsh(big.NewInt(1), 256)

func toBig(a api.Wide) *big.Int {
	n := new(big.Int)
	for _, w := range slices.Backward(a[:]) {
		n.Lsh(n, 64).Or(n, new(big.Int).SetUint64(w))
	}
	return n
}

func fromBig(n *big.Int) api.Wide {
	var b [32]byte
	n.FillBytes(b[:])
	var a api.Wide
	for i := range a {
		a[i] = binary.BigEndian.Uint64(b[24-8*i:])
	}
	return a
}

func power(n int64) *big.Int { return new(big.Int).Exp(big.NewInt(256), big.NewInt(n), nil) }

// numberReference multiplies or divides, as the words of P12.1 go; nil: none.
func numberReference(bits uint32) *big.Int {
	m, e := int64(bits&0x7FFFFF), int64(bits>>24)
	n := big.NewInt(m)
	if e <= 3 {
		n.Quo(n, power(3-e))
	} else {
		n.Mul(n, power(e-3))
	}
	most := new(big.Int).Mul(big.NewInt(8388607), power(29))
	if bits&0x800000 != 0 || n.Sign() == 0 || n.Cmp(most) > 0 {
		return nil
	}
	return n
}

func expandReference(bits uint32) (api.Wide, api.Errno) {
	n := numberReference(bits)
	if n == nil {
		return api.Wide{}, 121
	}
	return fromBig(n), 0
}

// compactReference goes by the bytes.
func compactReference(n *big.Int) uint32 {
	b := n.Bytes()
	if len(b) == 0 {
		return 0
	}
	size := len(b)
	b = append(b, 0, 0)[:3]
	if b[0] >= 0x80 {
		b = []byte{0, b[0], b[1]}
		size++
	}
	return uint32(size)<<24 | uint32(b[0])<<16 | uint32(b[1])<<8 | uint32(b[2])
}

func workReference(bits uint32) api.Wide {
	n := numberReference(bits)
	if n == nil {
		return api.Wide{}
	}
	return fromBig(n.Quo(whole, n.Add(n, big.NewInt(1))))
}

func headReference(h api.Head) []byte {
	b := binary.LittleEndian.AppendUint32(nil, h.Version)
	b = append(append(b, h.Prev[:]...), h.Root[:]...)
	for _, n := range []uint32{h.Time, h.Bits, h.Nonce} {
		b = binary.LittleEndian.AppendUint32(b, n)
	}
	return b
}

// idReference is the head's Id, the highest byte first.
func idReference(h api.Head) []byte {
	once := sha256.Sum256(headReference(h))
	twice := sha256.Sum256(once[:])
	slices.Reverse(twice[:])
	return twice[:]
}

func meetsReference(h api.Head) bool {
	n := numberReference(h.Bits)
	return n != nil && new(big.Int).SetBytes(idReference(h)).Cmp(n) <= 0
}

func nextReference(bits uint32, first, last uint32) uint32 {
	n := numberReference(bits)
	if n == nil {
		return easiest
	}
	d := new(big.Int).Sub(big.NewInt(int64(last)), big.NewInt(int64(first)))
	if d.Cmp(big.NewInt(1050)) < 0 {
		d.SetInt64(1050)
	}
	if d.Cmp(big.NewInt(16800)) > 0 {
		d.SetInt64(16800)
	}
	n.Quo(n.Mul(n, d), big.NewInt(4200))
	if most := numberReference(easiest); n.Cmp(most) > 0 {
		n = most
	}
	return compactReference(n)
}

// medianReference counts how many stand ahead of each one, and up to it.
func medianReference(l []uint32) uint32 {
	at := len(l) / 2
	for _, n := range l {
		less, upTo := 0, 0
		for _, o := range l {
			if o < n {
				less++
			}
			if o <= n {
				upTo++
			}
		}
		if less <= at && at < upTo {
			return n
		}
	}
	return 0
}

// holdBits holds what is worked out of BITS alone against the reference.
func holdBits(t *testing.T, bits uint32) api.Errno {
	t.Helper()
	want, wantError := expandReference(bits)
	got, e := work.Expand(bits)
	if got != want || e != wantError {
		t.Fatalf("Expand of %08x: %x, error %d, want %x, error %d", bits, got, e, want, wantError)
	}
	if got, want := work.Work(bits), workReference(bits); got != want {
		t.Fatalf("Work of %08x: %x, want %x", bits, got, want)
	}
	holdCompact(t, got)
	return e
}

// holdCompact holds Compact against the reference; and what was compacted,
// expanded again: it is as much, or less in what M doesn't hold.
func holdCompact(t *testing.T, a api.Wide) {
	t.Helper()
	bits := work.Compact(a)
	if want := compactReference(toBig(a)); bits != want {
		t.Fatalf("Compact of %x: %08x, want %08x", a, bits, want)
	}
	back, e := work.Expand(bits)
	if e != 0 {
		return
	}
	if got := work.Compact(back); got != bits {
		t.Fatalf("Compact of %08x, expanded: %08x", bits, got)
	}
	lost := new(big.Int).Sub(toBig(a), toBig(back))
	if lost.Sign() < 0 || new(big.Int).Lsh(lost, 15).Cmp(toBig(a)) >= 0 && lost.Sign() > 0 {
		t.Fatalf("Compact of %x, expanded: %x", a, back)
	}
}

func holdNext(t *testing.T, bits, first, last uint32) uint32 {
	t.Helper()
	got, want := work.Next(bits, first, last), nextReference(bits, first, last)
	if got != want {
		t.Fatalf("Next of %08x, %d, %d: %08x, want %08x", bits, first, last, got, want)
	}
	return got
}

func holdMeets(t *testing.T, h api.Head) bool {
	t.Helper()
	got, want := work.Meets(h), meetsReference(h)
	if got != want {
		t.Fatalf("Meets of %+v, whose Id is %x: %t, want %t", h, idReference(h), got, want)
	}
	return got
}

func holdMedian(t *testing.T, l []uint32) uint32 {
	t.Helper()
	before := slices.Clone(l)
	got, want := work.Median(l), medianReference(before)
	if got != want {
		t.Fatalf("Median of %d: %d, want %d", before, got, want)
	}
	if !slices.Equal(l, before) {
		t.Fatalf("Median of %d has changed them: %d", before, l)
	}
	return got
}

// fewM are the edges of M, and some between.
func fewM() []uint32 {
	l := []uint32{0, 1, 2, 0x12, 0x7E, 0x7F, 0x80, 0x81, 0xFE, 0xFF, 0x100, 0x101, 0x1234, 0x7FFE, 0x7FFF, 0x8000, 0x8001, 0xFFFE, 0xFFFF,
		0x10000, 0x10001, 0x123456, 0x200000, 0x3FFFFF, 0x400000, 0x400001, 0x555555, 0x7FFF00, 0x7FFFFD, 0x7FFFFE, 0x7FFFFF}
	for _, m := range l {
		l = append(l, m|0x800000)
	}
	return l
}

// manyBits are all E with each of these M.
func manyBits() []uint32 {
	var l []uint32
	for e := range uint32(256) {
		for _, m := range fewM() {
			l = append(l, e<<24|m)
		}
	}
	return l
}
