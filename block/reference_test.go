package block_test

import (
	"bytes"
	"crypto/sha256"
	"encoding/binary"
	"math"
	"math/rand"
	"slices"
	"testing"

	"byname/api"
	"byname/block"
	"byname/piece"
	"byname/tx"
)

func twiceReference(l ...[]byte) api.Hash {
	once := sha256.Sum256(slices.Concat(l...))
	return sha256.Sum256(once[:])
}

func headReference(h api.Head) []byte {
	var b [80]byte
	binary.LittleEndian.PutUint32(b[0:], h.Version)
	copy(b[4:36], h.Prev[:])
	copy(b[36:68], h.Root[:])
	binary.LittleEndian.PutUint32(b[68:], h.Time)
	binary.LittleEndian.PutUint32(b[72:], h.Bits)
	binary.LittleEndian.PutUint32(b[76:], h.Nonce)
	return b[:]
}

func headOfReference(b []byte) (api.Head, api.Errno) {
	switch {
	case len(b) < 80:
		return api.Head{}, 61
	case len(b) > 80:
		return api.Head{}, 62
	}
	return api.Head{
		Version: binary.LittleEndian.Uint32(b),
		Prev:    api.Hash(b[4:36]),
		Root:    api.Hash(b[36:68]),
		Time:    binary.LittleEndian.Uint32(b[68:]),
		Bits:    binary.LittleEndian.Uint32(b[72:]),
		Nonce:   binary.LittleEndian.Uint32(b[76:]),
	}, 0
}

// rootReference goes from above: what stands at that place, of that many rows
// above the hashes; there is nothing at a place whose hashes aren't there.
func rootReference(l []api.Hash) (api.Hash, bool) {
	if len(l) == 0 {
		return api.Hash{}, false
	}
	rows := 0
	for 1<<rows < len(l) {
		rows++
	}
	return nodeReference(l, rows, 0)
}

func nodeReference(l []api.Hash, rows, at int) (api.Hash, bool) {
	if rows == 0 {
		return l[at], false
	}
	left, twins := nodeReference(l, rows-1, 2*at)
	if (2*at+1)<<(rows-1) >= len(l) {
		return twiceReference(left[:], left[:]), twins
	}
	right, more := nodeReference(l, rows-1, 2*at+1)
	return twiceReference(left[:], right[:]), twins || more || left == right
}

func countReference(n int) []byte {
	switch {
	case n < 253:
		return []byte{byte(n)}
	case n < 1<<16:
		return binary.LittleEndian.AppendUint16([]byte{253}, uint16(n))
	}
	return binary.LittleEndian.AppendUint32([]byte{254}, uint32(n))
}

func bytesReference(b api.Block) []byte {
	l := append(headReference(b.Head), countReference(len(b.Txs))...)
	for _, t := range b.Txs {
		l = append(l, tx.Bytes(t)...)
	}
	return l
}

// parseReference goes by lengths; but of transactions, which layer 10 reads.
func parseReference(b []byte) (api.Block, api.Errno) {
	if len(b) < 81 {
		return api.Block{}, 61
	}
	head, _ := headOfReference(b[:80])
	n, rest := int(b[80]), b[81:]
	if n >= 253 {
		if size := 2 << (n - 253); len(rest) < size {
			return api.Block{}, 61
		}
		return api.Block{}, 62 // Above 100, or written at length.
	}
	if n > 100 {
		return api.Block{}, 62
	}
	whole := api.Block{Head: head}
	for range n {
		r := piece.New(rest)
		t := tx.Read(r)
		if r.Err() != 0 {
			return api.Block{}, r.Err()
		}
		rest = rest[len(rest)-r.Left():]
		whole.Txs = append(whole.Txs, t)
	}
	if len(rest) > 0 {
		return api.Block{}, 62
	}
	return whole, 0
}

// checkReference is P11.4, word by word.
func checkReference(b api.Block) api.Errno {
	if len(b.Txs) == 0 || len(bytesReference(b)) > 20000 {
		return 111
	}
	for i, t := range b.Txs {
		if tx.Base(t) != (i == 0) {
			return 111
		}
	}
	var ids []api.Hash
	for _, t := range b.Txs {
		ids = append(ids, twiceReference(tx.Bytes(t)))
	}
	for _, t := range b.Txs {
		if e := tx.Check(t); e != 0 {
			return e
		}
	}
	root, twins := rootReference(ids)
	if root != b.Head.Root || twins {
		return 111
	}
	return 0
}

// isSame holds two against each other field by field.
func isSame(a, b api.Block) bool {
	return a.Head == b.Head && slices.EqualFunc(a.Txs, b.Txs, tx.Same)
}

func isZero(b api.Block) bool { return isSame(b, api.Block{}) }

// holdParse holds Parse, HeadParse and Check against the reference; and what
// was parsed, written again.
func holdParse(t *testing.T, b []byte) api.Errno {
	t.Helper()
	wantHead, headError := headOfReference(b)
	if h, e := block.HeadParse(b); h != wantHead || e != headError {
		t.Fatalf("HeadParse of %x: %+v, error %d, want error %d", b, h, e, headError)
	}
	want, wantError := parseReference(b)
	got, e := block.Parse(b)
	if !isSame(got, want) || e != wantError {
		t.Fatalf("Parse of %.200x: %+v, error %d, want %+v, error %d", b, got, e, want, wantError)
	}
	if e == 0 && !bytes.Equal(block.Bytes(got), b) {
		t.Fatalf("Bytes of Parse of %.200x: %.200x", b, block.Bytes(got))
	}
	if got, want := block.Check(got), checkReference(got); got != want {
		t.Fatalf("Check of Parse of %.200x: error %d, want %d", b, got, want)
	}
	return e
}

// holdRoot holds Root against the reference.
func holdRoot(t *testing.T, l []api.Hash) (api.Hash, bool) {
	t.Helper()
	before := slices.Clone(l)
	root, twins := block.Root(l)
	wantRoot, wantTwins := rootReference(before)
	if root != wantRoot || twins != wantTwins {
		t.Fatalf("Root of %d, %.40x: %x, %t, want %x, %t", len(l), l, root, twins, wantRoot, wantTwins)
	}
	if !slices.Equal(l, before) {
		t.Fatalf("Root of %d has changed them", len(l))
	}
	return root, twins
}

// holdAll holds what is worked out of a block against the reference.
func holdAll(t *testing.T, b api.Block) api.Errno {
	t.Helper()
	l := bytesReference(b)
	if got := block.Bytes(b); !bytes.Equal(got, l) {
		t.Fatalf("Bytes of %+v: %.200x, want %.200x", b, got, l)
	}
	if got := block.HeadBytes(b.Head); !bytes.Equal(got, l[:80]) {
		t.Fatalf("HeadBytes of %+v: %x", b.Head, got)
	}
	if got := block.Id(b.Head); got != twiceReference(l[:80]) {
		t.Fatalf("Id of %+v: %x", b.Head, got)
	}
	ids := block.Ids(b)
	if len(ids) != len(b.Txs) {
		t.Fatalf("%d Ids of %d", len(ids), len(b.Txs))
	}
	for i, id := range ids {
		if id != twiceReference(tx.Bytes(b.Txs[i])) {
			t.Fatalf("Id %d: %x", i, id)
		}
	}
	holdRoot(t, ids)
	e := checkReference(b)
	if got := block.Check(b); got != e {
		t.Fatalf("Check of %+v: error %d, want %d", b, got, e)
	}
	if !block.Same(b, b) || !block.Same(b, copied(b)) || !block.Same(copied(b), b) {
		t.Fatalf("Same of %+v with itself", b)
	}
	return e
}

// copied has other memory everywhere; what has no elements is nil, where it
// was empty, and the other way round.
func copied(b api.Block) api.Block {
	c := api.Block{Head: b.Head}
	if b.Txs == nil {
		c.Txs = []api.Tx{}
	}
	for _, t := range b.Txs {
		o := api.Tx{Version: t.Version, Until: t.Until}
		for _, in := range t.Ins {
			in.Unlock = turned(in.Unlock)
			o.Ins = append(o.Ins, in)
		}
		for _, out := range t.Outs {
			out.Lock = turned(out.Lock)
			o.Outs = append(o.Outs, out)
		}
		c.Txs = append(c.Txs, o)
	}
	return c
}

func turned(b []byte) []byte {
	if b == nil {
		return []byte{}
	}
	return append([]byte(nil), b...)
}

func sample(n int) []byte {
	b := make([]byte, n)
	x := uint32(n)*2654435761 + 1
	for i := range b {
		x = x*1664525 + 1013904223
		b[i] = byte(x >> 24)
	}
	return b
}

// hashes are so many, of which no two are the same.
func hashes(n int) []api.Hash {
	var l []api.Hash
	for i := range n {
		l = append(l, twiceReference([]byte{byte(i), byte(i >> 8), byte(i >> 16)}))
	}
	return l
}

func base() api.Tx {
	null := api.Ref{At: math.MaxUint32}
	return api.Tx{Version: 1, Ins: []api.In{{Ref: null, Unlock: []byte{3, 4}}}, Outs: []api.Out{{Value: 5000000000, Lock: []byte{81}}}}
}

// spend is one of many that can be; each has a name of its own.
func spend(n int) api.Tx {
	ref := api.Ref{Id: api.Hash{9}, At: uint32(n)}
	return api.Tx{Version: 2, Ins: []api.In{{Ref: ref, Unlock: []byte{byte(n)}}}, Outs: []api.Out{{Value: 7, Lock: []byte{82, 83}}}}
}

// head has another value in each byte.
func head() api.Head {
	h, _ := headOfReference(counted(80))
	return h
}

// counted is 1, 2 and so on.
func counted(n int) []byte {
	b := make([]byte, n)
	for i := range b {
		b[i] = byte(i + 1)
	}
	return b
}

// rooted has these, and their Root.
func rooted(l ...api.Tx) api.Block {
	b := api.Block{Head: head(), Txs: l}
	var ids []api.Hash
	for _, t := range l {
		ids = append(ids, twiceReference(tx.Bytes(t)))
	}
	b.Head.Root, _ = rootReference(ids)
	return b
}

// plain is one that can be.
func plain() api.Block { return rooted(base(), spend(1), spend(2)) }

// many has so many transactions, the first one of which is a BASE.
func many(n int) api.Block {
	var l []api.Tx
	for i := range n {
		if i == 0 {
			l = append(l, base())
			continue
		}
		l = append(l, spend(i))
	}
	return rooted(l...)
}

// mixed is one of few pieces, many of which are wrong, or edges.
func mixed(r *rand.Rand) api.Block {
	odd := []func() api.Tx{
		base,
		func() api.Tx { return api.Tx{} },
		func() api.Tx { return spend(1) },
		func() api.Tx { t := spend(2); t.Outs[0].Value = -1; return t },
		func() api.Tx { t := spend(3); t.Ins = append(t.Ins, t.Ins[0]); return t },
		func() api.Tx { t := spend(4); t.Outs[0].Lock = sample(4800 + r.Intn(300)); return t },
		func() api.Tx { t := base(); t.Ins[0].Unlock = sample(r.Intn(110)); return t },
	}
	var l []api.Tx
	if r.Intn(10) > 0 {
		l = append(l, base())
	}
	often := r.Intn(4)
	for i := range r.Intn(9) {
		if r.Intn(9) < often {
			l = append(l, odd[r.Intn(len(odd))]())
			continue
		}
		l = append(l, spend(10+i/(1+r.Intn(2))))
	}
	b := rooted(l...)
	b.Head.Time, b.Head.Nonce = uint32(r.Intn(2)), uint32(r.Intn(2))
	if r.Intn(8) == 0 {
		b.Head.Root[r.Intn(32)] ^= 1 << r.Intn(8)
	}
	return b
}

// filled writes over a list, and over its spare room.
func filled(b []byte, with byte) {
	room := b[:cap(b)]
	for i := range room {
		room[i] = with
	}
}

// roomy is b with spare room behind it.
func roomy(b []byte) []byte {
	l := bytes.Repeat([]byte{0xEE}, len(b)+100)
	copy(l, b)
	return l[:len(b)]
}
