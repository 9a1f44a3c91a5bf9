package tx_test

import (
	"bytes"
	"crypto/sha256"
	"encoding/binary"
	"math"
	"math/big"
	"math/rand"
	"testing"

	"byname/api"
	"byname/piece"
	"byname/tx"
)

var null = api.Ref{At: math.MaxUint32}

func wordReference(n uint32) []byte { return binary.LittleEndian.AppendUint32(nil, n) }

func countReference(n int) []byte {
	switch {
	case n < 253:
		return []byte{byte(n)}
	case n < 1<<16:
		return binary.LittleEndian.AppendUint16([]byte{253}, uint16(n))
	}
	return binary.LittleEndian.AppendUint32([]byte{254}, uint32(n))
}

func textReference(b []byte) []byte { return append(countReference(len(b)), b...) }

// bytesReference writes a transaction, by the chapter's words, one by one.
func bytesReference(t api.Tx) []byte {
	var b bytes.Buffer
	b.Write(wordReference(t.Version))
	b.Write(countReference(len(t.Ins)))
	for _, in := range t.Ins {
		b.Write(in.Ref.Id[:])
		b.Write(wordReference(in.Ref.At))
		b.Write(textReference(in.Unlock))
		b.Write(wordReference(in.Order))
	}
	b.Write(countReference(len(t.Outs)))
	for _, o := range t.Outs {
		b.Write(binary.LittleEndian.AppendUint64(nil, uint64(o.Value)))
		b.Write(textReference(o.Lock))
	}
	b.Write(wordReference(t.Until))
	return b.Bytes()
}

func twiceReference(b []byte) api.Hash {
	once := sha256.Sum256(b)
	return sha256.Sum256(once[:])
}

// hashReference is P10.3 on a transaction that is made anew.
func hashReference(t api.Tx, i int, lock []byte) api.Hash {
	bare := api.Tx{Version: t.Version, Outs: t.Outs, Until: t.Until}
	for at, in := range t.Ins {
		unlock := []byte{}
		if at == i {
			unlock = lock
		}
		bare.Ins = append(bare.Ins, api.In{Ref: in.Ref, Unlock: unlock, Order: in.Order})
	}
	low := new(big.Int).And(big.NewInt(int64(i)), big.NewInt(math.MaxUint32))
	return twiceReference(append(bytesReference(bare), wordReference(uint32(low.Uint64()))...))
}

// checkReference is P10.2, case by case.
func checkReference(t api.Tx) api.Errno {
	if len(t.Ins) == 0 || len(t.Outs) == 0 || len(bytesReference(t)) > 5000 {
		return 101
	}
	all := new(big.Int)
	for _, o := range t.Outs {
		all.Add(all, big.NewInt(o.Value))
		if o.Value < 0 || o.Value > 2000000000000 {
			return 91
		}
	}
	if all.Cmp(big.NewInt(2000000000000)) > 0 {
		return 91
	}
	for i, in := range t.Ins {
		for _, other := range t.Ins[:i] {
			if in.Ref == other.Ref {
				return 101
			}
		}
	}
	for _, in := range t.Ins {
		if in.Ref != null {
			continue
		}
		if len(t.Ins) > 1 || len(in.Unlock) < 2 || len(in.Unlock) > 100 {
			return 101
		}
	}
	return 0
}

// cursor reads bytes by the chapters' words; once something can't be read,
// nothing more is.
type cursor struct {
	rest []byte
	e    api.Errno
}

func (c *cursor) take(n int) []byte {
	if c.e != 0 || n > len(c.rest) {
		if c.e == 0 {
			c.e = 61
		}
		return make([]byte, min(n, 40))
	}
	b := c.rest[:n]
	c.rest = c.rest[n:]
	return b
}

func (c *cursor) word() uint32 { return binary.LittleEndian.Uint32(c.take(4)) }

func (c *cursor) count(most uint64) int {
	before := c.rest
	first := c.take(1)[0]
	n := uint64(first)
	if c.e == 0 && first >= 253 {
		size := 2 << (first - 253)
		var digits [8]byte
		copy(digits[:], c.take(size))
		n = binary.LittleEndian.Uint64(digits[:])
		least := []uint64{253, 1 << 16, 1 << 32}[first-253]
		if c.e == 0 && n < least {
			c.e = 62
		}
	}
	if c.e == 0 && n > most {
		c.e = 62
	}
	if c.e != 0 {
		c.rest = before
		return 0
	}
	return int(n)
}

func (c *cursor) text() []byte {
	before := c.rest
	n := c.count(2000)
	b := c.take(n)
	if c.e != 0 {
		c.rest = before
		return nil
	}
	return bytes.Clone(b)
}

// readReference is what stands next, and how much is left behind it.
func readReference(b []byte) (api.Tx, int, api.Errno) {
	c := &cursor{rest: b}
	var t api.Tx
	t.Version = c.word()
	for n := c.count(200); n > 0 && c.e == 0; n-- {
		var in api.In
		copy(in.Ref.Id[:], c.take(32))
		in.Ref.At = c.word()
		in.Unlock = c.text()
		in.Order = c.word()
		t.Ins = append(t.Ins, in)
	}
	for n := c.count(200); n > 0 && c.e == 0; n-- {
		var o api.Out
		o.Value = int64(binary.LittleEndian.Uint64(c.take(8)))
		o.Lock = c.text()
		t.Outs = append(t.Outs, o)
	}
	t.Until = c.word()
	if c.e != 0 {
		return api.Tx{}, len(c.rest), c.e
	}
	return t, len(c.rest), 0
}

// isSame holds two against each other field by field.
func isSame(a, b api.Tx) bool {
	if a.Version != b.Version || a.Until != b.Until || len(a.Ins) != len(b.Ins) || len(a.Outs) != len(b.Outs) {
		return false
	}
	for i, in := range a.Ins {
		if in.Ref != b.Ins[i].Ref || in.Order != b.Ins[i].Order || !bytes.Equal(in.Unlock, b.Ins[i].Unlock) {
			return false
		}
	}
	for i, o := range a.Outs {
		if o.Value != b.Outs[i].Value || !bytes.Equal(o.Lock, b.Outs[i].Lock) {
			return false
		}
	}
	return true
}

func isZero(t api.Tx) bool { return isSame(t, api.Tx{}) }

// holdRead reads and parses, and holds both against the reference; and what
// was parsed, written again.
func holdRead(t *testing.T, b []byte) api.Errno {
	t.Helper()
	want, left, e := readReference(b)
	r := piece.New(b)
	got := tx.Read(r)
	if !isSame(got, want) || r.Err() != e || r.Left() != left {
		t.Fatalf("Read of %.60x: %+v, error %d, left %d, want %+v, error %d, left %d", b, got, r.Err(), r.Left(), want, e, left)
	}
	if e == 0 && left > 0 {
		want, e = api.Tx{}, 62
	}
	got, gotError := tx.Parse(b)
	if !isSame(got, want) || gotError != e {
		t.Fatalf("Parse of %.60x: %+v, error %d, want %+v, error %d", b, got, gotError, want, e)
	}
	if e == 0 && !bytes.Equal(tx.Bytes(got), b) {
		t.Fatalf("Bytes of Parse of %.60x: %.60x", b, tx.Bytes(got))
	}
	return e
}

// holdAll holds what is worked out of a transaction against the reference.
func holdAll(t *testing.T, x api.Tx) api.Errno {
	t.Helper()
	b := bytesReference(x)
	if got := tx.Bytes(x); !bytes.Equal(got, b) {
		t.Fatalf("Bytes of %+v: %.80x, want %.80x", x, got, b)
	}
	if got := tx.Id(x); got != twiceReference(b) {
		t.Fatalf("Id of %+v: %x", x, got)
	}
	if got := tx.Base(x); got != (len(x.Ins) == 1 && x.Ins[0].Ref == null) {
		t.Fatalf("Base of %+v: %t", x, got)
	}
	e := checkReference(x)
	if got := tx.Check(x); got != e {
		t.Fatalf("Check of %+v: error %d, want %d", x, got, e)
	}
	if !tx.Same(x, x) || !tx.Same(x, copied(x)) {
		t.Fatalf("Same of %+v with itself", x)
	}
	return e
}

// copied has other memory everywhere; what has no elements is nil, where it
// was empty, and the other way round.
func copied(t api.Tx) api.Tx {
	c := api.Tx{Version: t.Version, Until: t.Until}
	if t.Ins == nil {
		c.Ins = []api.In{}
	}
	if t.Outs == nil {
		c.Outs = []api.Out{}
	}
	for _, in := range t.Ins {
		c.Ins = append(c.Ins, api.In{Ref: in.Ref, Unlock: turned(in.Unlock), Order: in.Order})
	}
	for _, o := range t.Outs {
		c.Outs = append(c.Outs, api.Out{Value: o.Value, Lock: turned(o.Lock)})
	}
	return c
}

func turned(b []byte) []byte {
	if b == nil {
		return []byte{}
	}
	return append([]byte(nil), b...)
}

func sample(n int) []byte {
	b := make([]byte, n)
	x := uint32(n)*2654435761 + 1
	for i := range b {
		x = x*1664525 + 1013904223
		b[i] = byte(x >> 24)
	}
	return b
}

// filled writes over a list, and over its spare room.
func filled(b []byte, with byte) {
	room := b[:cap(b)]
	for i := range room {
		room[i] = with
	}
}

// roomy is b with spare room behind it.
func roomy(b []byte) []byte {
	l := bytes.Repeat([]byte{0xEE}, len(b)+100)
	copy(l, b)
	return l[:len(b)]
}

// plain is one that can be.
func plain() api.Tx {
	return api.Tx{
		Version: 0x01020304,
		Ins: []api.In{
			{Ref: api.Ref{Id: api.Hash{0: 1, 31: 2}, At: 0x05060708}, Unlock: []byte{9, 10}, Order: 0x0B0C0D0E},
			{Ref: api.Ref{Id: api.Hash{0: 1, 31: 2}, At: 4}},
		},
		Outs:  []api.Out{{Value: 0x0102030405, Lock: []byte{81}}, {Value: 7}},
		Until: 0x0F101112,
	}
}

// base is a BASE that can be.
func base() api.Tx {
	return api.Tx{Version: 1, Ins: []api.In{{Ref: null, Unlock: []byte{3, 4}}}, Outs: []api.Out{{Value: 5000000000, Lock: []byte{81}}}}
}

// many has so many Ins and Outs, with Unlocks and Locks of that length.
func many(ins, outs, length int) api.Tx {
	t := api.Tx{Version: 2, Until: 3}
	for i := range ins {
		t.Ins = append(t.Ins, api.In{Ref: api.Ref{Id: api.Hash{9}, At: uint32(i)}, Unlock: sample(length), Order: uint32(i * i)})
	}
	for i := range outs {
		t.Outs = append(t.Outs, api.Out{Value: int64(i), Lock: sample(length)})
	}
	return t
}

// mixed is one of few pieces, many of which are edges.
func mixed(r *rand.Rand) api.Tx {
	words := []uint32{0, 1, 255, 256, 65536, 1 << 31, math.MaxUint32, r.Uint32()}
	values := []int64{0, 1, 300, 5000000000, 1e12, 2000000000000, 2000000000001, -1, math.MaxInt64, math.MinInt64, r.Int63n(1e11), r.Int63n(1e11), r.Int63n(1e11)}
	lengths := []int{0, 0, 1, 2, 3, 25, 99, 100, 101, 252, 253, 1999, 2000, 2001}
	refs := []api.Ref{null, {}, {Id: api.Hash{31: 1}, At: math.MaxUint32}, {At: math.MaxUint32 - 1}, {Id: api.Hash{1}}, {Id: api.Hash{1}, At: 1}}
	ref := func() api.Ref {
		if r.Intn(3) == 0 {
			return refs[r.Intn(len(refs))]
		}
		return api.Ref{Id: api.Hash{byte(r.Intn(256)), byte(r.Intn(256)), 31: byte(r.Intn(4))}, At: uint32(r.Intn(300))}
	}
	if r.Intn(10) == 0 {
		refs, values = refs[:1], values[:5] // Many a BASE that can be.
	}
	t := api.Tx{Version: words[r.Intn(8)], Until: words[r.Intn(8)]}
	for range (r.Intn(7) + 1) / 2 {
		t.Ins = append(t.Ins, api.In{Ref: ref(), Unlock: sample(lengths[r.Intn(len(lengths))]), Order: words[r.Intn(8)]})
	}
	for range r.Intn(4) {
		t.Outs = append(t.Outs, api.Out{Value: values[r.Intn(len(values))], Lock: sample(lengths[r.Intn(len(lengths))])})
	}
	return t
}
