package block_test

import (
	"bytes"
	"encoding/hex"
	"math"
	"math/rand"
	"slices"
	"testing"

	"byname/api"
	"byname/block"
	"byname/piece"
	"byname/tx"
)

func unhex(t *testing.T, s string) []byte {
	b, err := hex.DecodeString(s)
	if err != nil {
		t.Fatal(err)
	}
	return b
}

// backward is a hash whose digits stand with the last byte first.
func backward(t *testing.T, s string) api.Hash {
	b := unhex(t, s)
	slices.Reverse(b)
	return api.Hash(b)
}

// published is a block that is known elsewhere, in the same layout.
const published = "01000000" + "0000000000000000000000000000000000000000000000000000000000000000" +
	"3ba3edfd7a7b12b27ac72c3e67768f617fc81bc3888a51323a9fb8aa4b1e5e4a" + "29ab5f49" + "ffff001d" + "1dac2b7c" + "01" +
	"01000000" + "01" + "0000000000000000000000000000000000000000000000000000000000000000" + "ffffffff" +
	"4d" + "04ffff001d0104455468652054696d65732030332f4a616e2f32303039204368616e63656c6c6f72206f6e206272696e6b206f66207365636f6e64206261696c6f757420666f722062616e6b73" + "ffffffff" +
	"01" + "00f2052a01000000" + "43" + "4104678afdb0fe5548271967f1a67130b7105cd6a828e03909a67962e0ea1f61deb649f6bc3f4cef38c4f35504e51ec112de5c384df7ba0b8d578a4c702b6bf11d5fac" + "00000000"

// P11.1 to P11.4: all of it, of a block whose name is known.
func TestPublished(t *testing.T) {
	written := unhex(t, published)
	b, e := block.Parse(written)
	if e != api.OK || !bytes.Equal(block.Bytes(b), written) {
		t.Fatalf("%+v, error %d", b, e)
	}
	want := api.Head{Version: 1, Root: api.Hash(written[36:68]), Time: 1231006505, Bits: 0x1D00FFFF, Nonce: 2083236893}
	if b.Head != want {
		t.Errorf("%+v", b.Head)
	}
	if id := block.Id(b.Head); id != backward(t, "000000000019d6689c085ae165831e934ff763ae46a2a6c172b3f1b60a8ce26f") {
		t.Errorf("%x", id)
	}
	if ids := block.Ids(b); len(ids) != 1 || ids[0] != b.Head.Root {
		t.Errorf("%x", ids)
	}
	if e := block.Check(b); e != api.OK {
		t.Error(e)
	}
	if h, e := block.HeadParse(written[:80]); h != want || e != api.OK {
		t.Error(h, e)
	}
}

// P11.1: heads, written out.
func TestHeadWritten(t *testing.T) {
	prev, root := counted(32), bytes.Repeat([]byte{200}, 32)
	ones := api.Hash(bytes.Repeat([]byte{255}, 32))
	for i, c := range []struct {
		h    api.Head
		want []byte
	}{
		{api.Head{}, make([]byte, 80)},
		{api.Head{Version: 0x01020304, Prev: api.Hash(prev), Root: api.Hash(root), Time: 0x05060708, Bits: 0x090A0B0C, Nonce: 0x0D0E0F10},
			slices.Concat([]byte{4, 3, 2, 1}, prev, root, []byte{8, 7, 6, 5}, []byte{12, 11, 10, 9}, []byte{16, 15, 14, 13})},
		{api.Head{Version: 1}, slices.Concat([]byte{1}, make([]byte, 79))},
		{api.Head{Nonce: 1 << 31}, slices.Concat(make([]byte, 79), []byte{128})},
		{api.Head{Time: 300}, slices.Concat(make([]byte, 68), []byte{44, 1}, make([]byte, 10))},
		{api.Head{Bits: api.Easiest}, slices.Concat(make([]byte, 72), []byte{255, 255, 127, 32}, make([]byte, 4))},
		{api.Head{Version: math.MaxUint32, Prev: ones, Root: ones, Time: math.MaxUint32, Bits: math.MaxUint32, Nonce: math.MaxUint32},
			bytes.Repeat([]byte{255}, 80)},
	} {
		if b := block.HeadBytes(c.h); !bytes.Equal(b, c.want) {
			t.Errorf("%d: %x, want %x", i, b, c.want)
		}
		if h, e := block.HeadParse(c.want); h != c.h || e != api.OK {
			t.Errorf("%d: %+v, error %d", i, h, e)
		}
		if id := block.Id(c.h); id != twiceReference(c.want) {
			t.Errorf("%d: Id %x", i, id)
		}
	}
}

// P11.1: of fewer bytes ErrShort, of more ErrForm, and a zero head.
func TestHeadParseLengths(t *testing.T) {
	for n := range 400 {
		want := api.OK
		switch {
		case n < 80:
			want = api.ErrShort
		case n > 80:
			want = api.ErrForm
		}
		h, e := block.HeadParse(counted(n))
		if e != want || e != api.OK && h != (api.Head{}) || e == api.OK && h != head() {
			t.Errorf("%d: %+v, error %d, want %d", n, h, e, want)
		}
	}
	for _, b := range [][]byte{nil, {}} {
		if h, e := block.HeadParse(b); h != (api.Head{}) || e != api.ErrShort {
			t.Error(h, e)
		}
	}
	if h, e := block.HeadParse(make([]byte, 1<<20)); h != (api.Head{}) || e != api.ErrForm {
		t.Error(h, e)
	}
}

// P11.1: a head has a place for each byte, and its Id hangs on each.
func TestHeadBytesEach(t *testing.T) {
	seen := map[api.Hash]int{}
	for at := range 80 {
		for bit := range 8 {
			b := headReference(head())
			b[at] ^= 1 << bit
			h, e := block.HeadParse(b)
			want, _ := headOfReference(b)
			if h != want || e != api.OK || !bytes.Equal(block.HeadBytes(h), b) {
				t.Fatalf("%d, %d: %+v, error %d", at, bit, h, e)
			}
			seen[block.Id(h)]++
		}
	}
	seen[block.Id(head())]++
	if len(seen) != 80*8+1 {
		t.Errorf("%d Ids", len(seen))
	}
}

// P11.3: blocks, written out.
func TestBytesWritten(t *testing.T) {
	one := rooted(base())
	for i, c := range []struct {
		b    api.Block
		want []byte
	}{
		{api.Block{}, make([]byte, 81)},
		{api.Block{Txs: []api.Tx{}}, make([]byte, 81)},
		{api.Block{Txs: []api.Tx{{}}}, slices.Concat(make([]byte, 80), []byte{1}, make([]byte, 10))},
		{api.Block{Txs: make([]api.Tx, 3)}, slices.Concat(make([]byte, 80), []byte{3}, make([]byte, 30))},
		{api.Block{Head: head()}, append(counted(80), 0)},
		{one, slices.Concat(headReference(one.Head), []byte{1},
			[]byte{1, 0, 0, 0},
			[]byte{1}, make([]byte, 32), []byte{255, 255, 255, 255}, []byte{2, 3, 4}, []byte{0, 0, 0, 0},
			[]byte{1}, []byte{0, 0xF2, 5, 42, 1, 0, 0, 0}, []byte{1, 81},
			[]byte{0, 0, 0, 0})},
		{plain(), slices.Concat(headReference(plain().Head), []byte{3}, tx.Bytes(base()), tx.Bytes(spend(1)), tx.Bytes(spend(2)))},
	} {
		if b := block.Bytes(c.b); !bytes.Equal(b, c.want) {
			t.Errorf("%d: %x, want %x", i, b, c.want)
		}
		if b, e := block.Parse(c.want); !isSame(b, c.b) || e != api.OK {
			t.Errorf("%d: %+v, error %d", i, b, e)
		}
		holdParse(t, c.want)
	}
}

// P11.3: so many transactions as the Count has edges, and as are read at most.
func TestCounts(t *testing.T) {
	for _, n := range []int{0, 1, 2, 3, 99, 100, 101, 102, 200, 252, 253, 254, 255, 256, 1000, 65535, 65536} {
		b := many(n)
		l := block.Bytes(b)
		if !bytes.Equal(l, bytesReference(b)) {
			t.Fatalf("Bytes of %d: %.200x", n, l)
		}
		want := api.OK
		if n > 100 {
			want = api.ErrForm
		}
		got, e := block.Parse(l)
		if e != want || e == api.OK && !isSame(got, b) || e != api.OK && !isZero(got) {
			t.Errorf("%d: error %d, want %d", n, e, want)
		}
		holdParse(t, l)
	}
}

// P11.3: which error is told: of the piece that was wrong first.
func TestParseFirst(t *testing.T) {
	h := headReference(head())
	count := func(n uint64) []byte { return piece.Count(h, n) }
	one, good := tx.Bytes(base()), bytesReference(plain())
	crowd, long := spend(1), spend(2)
	for i := range 200 {
		crowd.Ins = append(crowd.Ins, api.In{Ref: api.Ref{At: uint32(i)}})
	}
	long.Outs[0].Lock = sample(2001)
	for i, c := range []struct {
		b []byte
		e api.Errno
	}{
		{nil, 61},
		{h[:79], 61},
		{h, 61},
		{count(0), 0},
		{append(count(0), 0), 62},
		{append(count(0), one...), 62},
		{count(1), 61},
		{count(100), 61},
		{count(101), 62},
		{append(count(101), bytes.Repeat(one, 101)...), 62},
		{append(count(100), bytes.Repeat(one, 100)...), 0},
		{append(count(100), bytes.Repeat(one, 99)...), 61},
		{append(count(100), bytes.Repeat(one, 101)...), 62},
		{count(252), 62},
		{count(253), 62},
		{count(65536), 62},
		{count(1 << 32), 62},
		{count(math.MaxUint64), 62},
		{append(slices.Clone(h), 253), 61},
		{append(slices.Clone(h), 253, 1), 61},
		{append(slices.Clone(h), 254, 1, 0, 0), 61},
		{append(slices.Clone(h), 255, 1, 0, 0, 0, 0, 0, 0), 61},
		// At length, what a byte would have told.
		{append(slices.Clone(h), 253, 0, 0), 62},
		{slices.Concat(h, []byte{253, 1, 0}, one), 62},
		{slices.Concat(h, []byte{254, 1, 0, 0, 0}, one), 62},
		{slices.Concat(h, []byte{255, 1, 0, 0, 0, 0, 0, 0, 0}, one), 62},

		{append(count(1), one...), 0},
		{append(count(1), one[:len(one)-1]...), 61},
		{slices.Concat(count(1), one, []byte{0}), 62},
		{slices.Concat(count(1), one, one), 62},
		{slices.Concat(count(2), one, one), 0},
		{slices.Concat(count(2), one, one[:len(one)-1]), 61},
		{append(count(2), one...), 61},
		{append(count(1), tx.Bytes(crowd)...), 62},
		{slices.Concat(count(2), one, tx.Bytes(crowd)), 62},
		{slices.Concat(count(3), tx.Bytes(crowd), one), 62},
		{append(count(1), tx.Bytes(crowd)[:5]...), 62},
		{append(count(1), tx.Bytes(crowd)[:4]...), 61},
		{append(count(1), tx.Bytes(long)...), 62},
		{slices.Concat(count(2), one, tx.Bytes(long)[:50]), 61},
		{slices.Concat(count(3), one, tx.Bytes(long)), 62},
		{good, 0},
		{good[:len(good)-1], 61},
		{append(slices.Clone(good), 0), 62},
		{slices.Concat(good, good), 62},
	} {
		b, e := block.Parse(c.b)
		if e != c.e || e != api.OK && !isZero(b) {
			t.Errorf("%d: %+v, error %d, want %d", i, b, e, c.e)
		}
		holdParse(t, c.b)
	}
}

// P11.3: what ends early, begins late, or has something behind it.
func TestParseCut(t *testing.T) {
	for _, b := range []api.Block{plain(), rooted(base()), {Head: head()}, many(5), {Txs: make([]api.Tx, 2)}} {
		l := bytesReference(b)
		for n := range l {
			if e := holdParse(t, l[:n]); e != api.ErrShort {
				t.Fatalf("%d of %d: error %d", n, len(l), e)
			}
			holdParse(t, l[n:])
			if e := holdParse(t, append(slices.Clone(l), l[n:]...)); e != api.ErrForm {
				t.Fatalf("%d behind %d: error %d", len(l)-n, len(l), e)
			}
		}
		if e := holdParse(t, l); e != api.OK {
			t.Fatal(e)
		}
	}
}

// P11.3: blocks changed at each byte, beside the reference.
func TestParseChanged(t *testing.T) {
	l := bytesReference(rooted(base(), spend(1)))
	seen := map[api.Errno]int{}
	for at := 60; at < len(l); at++ {
		for n := range 256 {
			b := slices.Clone(l)
			b[at] = byte(n)
			seen[holdParse(t, b)]++
		}
	}
	if seen[0] < 1000 || seen[61] < 100 || seen[62] < 100 || len(seen) != 3 {
		t.Error(seen)
	}
}

// P11.3: as their Bytes are, so are blocks.
func TestSame(t *testing.T) {
	for i, change := range []func(b *api.Block){
		func(b *api.Block) { b.Head.Version++ },
		func(b *api.Block) { b.Head.Prev[0]++ },
		func(b *api.Block) { b.Head.Prev[31]++ },
		func(b *api.Block) { b.Head.Root[0]++ },
		func(b *api.Block) { b.Head.Root[31]++ },
		func(b *api.Block) { b.Head.Prev, b.Head.Root = b.Head.Root, b.Head.Prev },
		func(b *api.Block) { b.Head.Time++ },
		func(b *api.Block) { b.Head.Bits++ },
		func(b *api.Block) { b.Head.Nonce++ },
		func(b *api.Block) { b.Head.Time, b.Head.Bits = b.Head.Bits, b.Head.Time },
		func(b *api.Block) { b.Txs = nil },
		func(b *api.Block) { b.Txs = b.Txs[:2] },
		func(b *api.Block) { b.Txs = b.Txs[1:] },
		func(b *api.Block) { b.Txs = append(b.Txs, api.Tx{}) },
		func(b *api.Block) { b.Txs[0], b.Txs[1] = b.Txs[1], b.Txs[0] },
		func(b *api.Block) { b.Txs[2].Until++ },
		func(b *api.Block) { b.Txs[0].Ins[0].Unlock = nil },
		func(b *api.Block) { b.Txs[1].Outs[0].Value++ },
		func(b *api.Block) { b.Txs[2].Outs[0].Lock = []byte{82} },
	} {
		b := plain()
		change(&b)
		if block.Same(b, plain()) || block.Same(plain(), b) || !block.Same(b, copied(b)) {
			t.Error(i)
		}
	}
	for _, l := range [][]api.Tx{nil, {}} {
		if !block.Same(api.Block{Txs: l}, api.Block{}) || !block.Same(api.Block{}, api.Block{Txs: l}) {
			t.Error("nil and empty")
		}
	}
	r := rand.New(rand.NewSource(111))
	var l []api.Block
	for range 60 {
		b := mixed(r)
		l = append(l, b, copied(b), api.Block{Head: b.Head}, api.Block{Txs: b.Txs})
	}
	for _, a := range l {
		for _, b := range l {
			if got := block.Same(a, b); got != isSame(a, b) || got != bytes.Equal(bytesReference(a), bytesReference(b)) {
				t.Fatalf("Same of %+v and %+v: %t", a, b, got)
			}
		}
	}
}

// crowded is plain with spare room in each list, and more elements there.
func crowded() api.Block {
	b := plain()
	for i := range b.Txs {
		t := &b.Txs[i]
		t.Ins[0].Unlock = roomy(t.Ins[0].Unlock)
		t.Outs[0].Lock = roomy(t.Outs[0].Lock)
		t.Ins = append(t.Ins, api.In{Order: 77}, api.In{Order: 78})[:1]
		t.Outs = append(t.Outs, api.Out{Value: 79}, api.Out{Value: 80})[:1]
	}
	b.Txs = append(b.Txs, spend(81), spend(82))[:3]
	return b
}

// whole is all that b is made of, spare room included.
func whole(b api.Block) []byte {
	l := bytesReference(b)
	for _, t := range b.Txs[:cap(b.Txs)] {
		l = append(l, tx.Bytes(api.Tx{Ins: t.Ins[:cap(t.Ins)], Outs: t.Outs[:cap(t.Outs)]})...)
	}
	for _, list := range listsOf(b) {
		l = append(l, list[:cap(list)]...)
	}
	return l
}

func listsOf(b api.Block) [][]byte {
	var l [][]byte
	for _, t := range b.Txs {
		for _, in := range t.Ins {
			l = append(l, in.Unlock)
		}
		for _, o := range t.Outs {
			l = append(l, o.Lock)
		}
	}
	return l
}

// The rules: what is handed in isn't changed, nor shared, spare room included.
func TestUnchanged(t *testing.T) {
	b := crowded()
	before := whole(b)
	filled(block.Bytes(b), 0xAA)
	filled(block.HeadBytes(b.Head), 0xAA)
	ids := block.Ids(b)
	clear(ids[:cap(ids)])
	block.Same(b, b)
	if e := block.Check(b); e != api.OK {
		t.Error(e)
	}
	if !bytes.Equal(whole(b), before) {
		t.Error("changed, or shared")
	}

	l := roomy(bytesReference(b))
	before = bytes.Clone(l[:cap(l)])
	got, e := block.Parse(l)
	if !isSame(got, b) || e != api.OK {
		t.Fatal(got, e)
	}
	for _, list := range listsOf(got) {
		filled(list, 0xBB)
	}
	if h, e := block.HeadParse(l[:80]); h != b.Head || e != api.OK {
		t.Error(h, e)
	}
	if !bytes.Equal(l[:cap(l)], before) {
		t.Error("Parse has changed it, or shares it")
	}

	row := append(hashes(5), api.Hash{6}, api.Hash{7})
	for n := range row {
		block.Root(row[:n])
	}
	if !slices.Equal(row[:5], hashes(5)) || row[5] != (api.Hash{6}) || row[6] != (api.Hash{7}) {
		t.Error("Root has changed it")
	}
}

// The rules: no two lists of one answer share any memory.
func TestApart(t *testing.T) {
	b := many(5)
	got, e := block.Parse(bytesReference(b))
	if e != api.OK {
		t.Fatal(e)
	}
	lists, wanted := listsOf(got), listsOf(b)
	for i, list := range lists {
		if !bytes.Equal(list, wanted[i]) {
			t.Errorf("%d was written over", i)
		}
		filled(list, 0xCC)
	}
	for i := range got.Txs {
		o := &got.Txs[i]
		if o.Outs[0].Value != b.Txs[i].Outs[0].Value || o.Ins[0].Ref != b.Txs[i].Ins[0].Ref {
			t.Errorf("%d was written over", i)
		}
		clear(o.Ins[:cap(o.Ins)])
		clear(o.Outs[:cap(o.Outs)])
	}
}

// The rules: nothing is kept: answers, and what was handed in, may be written
// over, and all is answered anew.
func TestNotKept(t *testing.T) {
	for range 3 {
		l := bytesReference(plain())
		b, e := block.Parse(l)
		h, headError := block.HeadParse(l[:80])
		filled(l, 0xAA)
		if !isSame(b, plain()) || e != api.OK || h != plain().Head || headError != api.OK {
			t.Errorf("%+v, error %d, %+v, error %d", b, e, h, headError)
		}
		for _, list := range listsOf(b) {
			filled(list, 0xBB)
		}
		filled(block.Bytes(plain()), 0xCC)
		filled(block.HeadBytes(plain().Head), 0xDD)
		ids := block.Ids(plain())
		clear(ids[:cap(ids)])
		holdAll(t, plain())
	}
}

func FuzzParse(f *testing.F) {
	f.Add([]byte{})
	for _, b := range []api.Block{{}, plain(), rooted(base()), many(100), many(101), {Txs: make([]api.Tx, 100)}} {
		f.Add(bytesReference(b))
	}
	f.Fuzz(func(t *testing.T, l []byte) {
		holdParse(t, l)
		if b, e := block.Parse(l); e == api.OK {
			holdAll(t, b)
			b = rooted(b.Txs...)
			holdAll(t, b)
		}
	})
}
