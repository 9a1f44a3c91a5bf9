package coin_test

import (
	"bytes"
	"encoding/binary"
	"math"
	"math/big"
	"testing"

	"byname/api"
	"byname/coin"
	"byname/piece"
)

func moneyReference(n *big.Int) bool {
	return n.Sign() >= 0 && n.Cmp(big.NewInt(2000000000000)) <= 0
}

// sumReference adds numbers of any length, and asks what all come to.
func sumReference(l []api.Out) (int64, api.Errno) {
	all, good := new(big.Int), true
	for _, o := range l {
		n := big.NewInt(o.Value)
		good = good && moneyReference(n)
		all.Add(all, n)
	}
	if !good || !moneyReference(all) {
		return 0, 91
	}
	return all.Int64(), 0
}

// subsidyReference takes the half, so often as 150 goes into the height.
func subsidyReference(height int64) int64 {
	if height < 0 {
		return 0
	}
	left := int64(5000000000)
	for ; height >= 150 && left > 0; height -= 150 {
		left /= 2
	}
	return left
}

func countReference(n uint64) []byte {
	switch {
	case n < 253:
		return []byte{byte(n)}
	case n < 1<<16:
		return binary.LittleEndian.AppendUint16([]byte{253}, uint16(n))
	case n < 1<<32:
		return binary.LittleEndian.AppendUint32([]byte{254}, uint32(n))
	}
	return binary.LittleEndian.AppendUint64([]byte{255}, n)
}

func refReference(r api.Ref) []byte { return binary.LittleEndian.AppendUint32(r.Id[:], r.At) }

func outReference(o api.Out) []byte {
	b := binary.LittleEndian.AppendUint64(nil, uint64(o.Value))
	return append(append(b, countReference(uint64(len(o.Lock)))...), o.Lock...)
}

func coinReference(c api.Coin) []byte {
	n := 2 * uint64(c.Height)
	if c.Base {
		n++
	}
	return append(countReference(n), outReference(c.Out)...)
}

// countRead is the Count at the beginning of b, and what is behind it.
func countRead(b []byte, most uint64) (uint64, []byte, api.Errno) {
	if len(b) == 0 {
		return 0, nil, 61
	}
	size := 1
	if b[0] >= 253 {
		size = []int{3, 5, 9}[b[0]-253]
	}
	if len(b) < size {
		return 0, nil, 61
	}
	n := uint64(b[0])
	if size > 1 {
		var digits [8]byte
		copy(digits[:], b[1:size])
		n = binary.LittleEndian.Uint64(digits[:])
	}
	if n > most || len(countReference(n)) != size {
		return 0, nil, 62
	}
	return n, b[size:], 0
}

// lockRead is the Text at the beginning of b, and what is behind it.
func lockRead(b []byte) ([]byte, []byte, api.Errno) {
	n, b, e := countRead(b, 2000)
	if e != 0 {
		return nil, nil, e
	}
	if uint64(len(b)) < n {
		return nil, nil, 61
	}
	return b[:n], b[n:], 0
}

// parseReference reads a coin, by the chapter's words, one by one.
func parseReference(b []byte) (api.Coin, api.Errno) {
	n, b, e := countRead(b, 2000000001)
	if e != 0 {
		return api.Coin{}, e
	}
	if len(b) < 8 {
		return api.Coin{}, 61
	}
	value := int64(binary.LittleEndian.Uint64(b))
	if value < 0 || value > 2000000000000 {
		return api.Coin{}, 62
	}
	lock, b, e := lockRead(b[8:])
	if e != 0 {
		return api.Coin{}, e
	}
	if len(b) > 0 {
		return api.Coin{}, 62
	}
	return api.Coin{Out: api.Out{Value: value, Lock: lock}, Height: int64(n / 2), Base: n%2 == 1}, 0
}

func sameCoin(a, b api.Coin) bool {
	return a.Height == b.Height && a.Base == b.Base && sameOut(a.Out, b.Out)
}

func sameOut(a, b api.Out) bool { return a.Value == b.Value && bytes.Equal(a.Lock, b.Lock) }

// holdParse parses, and holds it against the reference; and what was parsed,
// written again.
func holdParse(t *testing.T, b []byte) api.Errno {
	t.Helper()
	want, e := parseReference(b)
	got, gotError := coin.Parse(b)
	if !sameCoin(got, want) || gotError != e {
		t.Fatalf("Parse of %.60x: %+v, error %d, want %+v, error %d", b, got, gotError, want, e)
	}
	if e == 0 && !bytes.Equal(coin.Bytes(got), b) {
		t.Fatalf("Bytes of Parse of %.60x: %.60x", b, coin.Bytes(got))
	}
	return e
}

// holdRefRead reads a reference, and holds it against the bytes.
func holdRefRead(t *testing.T, b []byte) {
	t.Helper()
	r := piece.New(b)
	got := coin.RefRead(r)
	if len(b) < 36 {
		if got != (api.Ref{}) || r.Err() != 61 {
			t.Fatalf("RefRead of %x: %v, error %d", b, got, r.Err())
		}
		return
	}
	want := api.Ref{Id: api.Hash(b[:32]), At: binary.LittleEndian.Uint32(b[32:])}
	if got != want || r.Err() != 0 || r.Left() != len(b)-36 {
		t.Fatalf("RefRead of %x: %v, error %d, left %d", b, got, r.Err(), r.Left())
	}
}

// holdOutRead reads an output, and holds it against the reference.
func holdOutRead(t *testing.T, b []byte) api.Errno {
	t.Helper()
	r := piece.New(b)
	got := coin.OutRead(r)
	var want api.Out
	var rest []byte
	e := api.ErrShort
	if len(b) >= 8 {
		want.Value = int64(binary.LittleEndian.Uint64(b))
		want.Lock, rest, e = lockRead(b[8:])
	}
	if e != 0 {
		want = api.Out{}
	}
	if !sameOut(got, want) || r.Err() != e || e == 0 && r.Left() != len(rest) {
		t.Fatalf("OutRead of %.60x: %v, error %d, left %d, want %v, error %d, left %d", b, got, r.Err(), r.Left(), want, e, len(rest))
	}
	return e
}

func sample(n int) []byte {
	b := make([]byte, n)
	x := uint32(n)*2654435761 + 1
	for i := range b {
		x = x*1664525 + 1013904223
		b[i] = byte(x >> 24)
	}
	return b
}

// filled writes over a list, and over its spare room.
func filled(b []byte, with byte) {
	room := b[:cap(b)]
	for i := range room {
		room[i] = with
	}
}

// roomy is b with spare room behind it.
func roomy(b []byte) []byte {
	l := bytes.Repeat([]byte{0xEE}, len(b)+100)
	copy(l, b)
	return l[:len(b)]
}

// amounts are those about which something changes, and the ends of int64.
var amounts = []int64{0, 1, 2, 255, 256, 1<<31 - 1, 1 << 31, 1<<32 - 1, 1 << 32, 4999999999, 5000000000, 1e12,
	api.MaxMoney - 1, api.MaxMoney, api.MaxMoney + 1, 1<<53 + 1, 1 << 62, math.MaxInt64 - 1, math.MaxInt64,
	-1, -2, -255, -256, -1 << 31, -1 << 32, -api.MaxMoney, -api.MaxMoney - 1, -1 << 62, math.MinInt64, math.MinInt64 + 1, math.MinInt64 + api.MaxMoney}

// lengths are those of locks about which something changes.
var lengths = []int{0, 1, 2, 25, 251, 252, 253, 254, 255, 256, 1999, 2000, 2001, 65535, 65536}

// heights are those about which something changes in a coin's first bytes.
var heights = []int64{0, 1, 2, 125, 126, 127, 128, 200, 32766, 32767, 32768, 99999, 999999999, 1000000000}
