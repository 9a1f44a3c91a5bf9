package tx_test

import (
	"bytes"
	"encoding/hex"
	"math"
	"math/rand"
	"testing"

	"byname/api"
	"byname/tx"
)

// Errors, Types: the numbers that the chapter gives.
func TestNumbers(t *testing.T) {
	if api.ErrTx != 101 || api.ErrMoney != 91 || api.ErrShort != 61 || api.ErrForm != 62 {
		t.Error(api.ErrTx, api.ErrMoney, api.ErrShort, api.ErrForm)
	}
	if api.MaxTx != 5000 || api.MaxScript != 2000 || api.MaxMoney != 2000000000000 {
		t.Error(api.MaxTx, api.MaxScript, int64(api.MaxMoney))
	}
}

// published is a BASE that is known elsewhere, in the same layout.
const published = "01000000" + "01" + "0000000000000000000000000000000000000000000000000000000000000000" + "ffffffff" +
	"4d" + "04ffff001d0104455468652054696d65732030332f4a616e2f32303039204368616e63656c6c6f72206f6e206272696e6b206f66207365636f6e64206261696c6f757420666f722062616e6b73" + "ffffffff" +
	"01" + "00f2052a01000000" + "43" + "4104678afdb0fe5548271967f1a67130b7105cd6a828e03909a67962e0ea1f61deb649f6bc3f4cef38c4f35504e51ec112de5c384df7ba0b8d578a4c702b6bf11d5fac" + "00000000"

// P10.2: names written out.
func TestIdWritten(t *testing.T) {
	known, e := tx.Parse(unhex(t, published))
	if e != api.OK || !tx.Base(known) || tx.Check(known) != api.OK || known.Outs[0].Value != 5000000000 || len(known.Ins[0].Unlock) != 77 {
		t.Fatalf("%+v, error %d", known, e)
	}
	for i, c := range []struct {
		x    api.Tx
		want string
	}{
		{api.Tx{}, "78faf3e2fa84213bfc85cb0ab14f980318142861d737545e050f3bd03d4502f7"},
		{api.Tx{Version: 1, Until: 2}, "1a6e15d7a28fa5b6270230279d5986b7da1a939959ca275807d14d96c7ce6c67"},
		{base(), "87581700436703c4b40c61476f7b655a9413d4c5eb23fa8313f8a39e2e276758"},
		{known, "3ba3edfd7a7b12b27ac72c3e67768f617fc81bc3888a51323a9fb8aa4b1e5e4a"},
	} {
		if got := tx.Id(c.x); got != api.Hash(unhex(t, c.want)) {
			t.Errorf("%d: %x, want %s", i, got, c.want)
		}
	}
	// Unlocks count, too.
	x := plain()
	x.Ins[0].Unlock[1]++
	if tx.Id(x) == tx.Id(plain()) || tx.Id(copied(plain())) != tx.Id(plain()) {
		t.Error("Id")
	}
}

func unhex(t *testing.T, s string) []byte {
	b, err := hex.DecodeString(s)
	if err != nil {
		t.Fatal(err)
	}
	return b
}

// P10.2: a BASE has one In, of the NULL reference.
func TestBase(t *testing.T) {
	for i, c := range []struct {
		ins  []api.In
		want bool
	}{
		{nil, false},
		{[]api.In{}, false},
		{[]api.In{{Ref: null}}, true},
		{[]api.In{{Ref: null, Unlock: sample(2000), Order: 7}}, true},
		{[]api.In{{Ref: null}, {Ref: null}}, false},
		{[]api.In{{Ref: null}, {Ref: api.Ref{At: 1}}}, false},
		{[]api.In{{Ref: api.Ref{At: 1}}, {Ref: null}}, false},
		{[]api.In{{}}, false},
		{[]api.In{{Ref: api.Ref{At: math.MaxUint32 - 1}}}, false},
		{[]api.In{{Ref: api.Ref{At: math.MaxInt32}}}, false},
		{[]api.In{{Ref: api.Ref{Id: api.Hash{1}, At: math.MaxUint32}}}, false},
		{[]api.In{{Ref: api.Ref{Id: api.Hash{31: 1}, At: math.MaxUint32}}}, false},
	} {
		if got := tx.Base(api.Tx{Ins: c.ins, Outs: base().Outs}); got != c.want {
			t.Errorf("%d: %t", i, got)
		}
		if got := tx.Base(api.Tx{Ins: c.ins}); got != c.want {
			t.Errorf("%d, without Outs: %t", i, got)
		}
	}
}

// P10.2, Examples: what can be, and what can't, by one thing each.
func TestCheckWritten(t *testing.T) {
	for i, c := range []struct {
		x      api.Tx
		change func(x *api.Tx)
		e      api.Errno
	}{
		{plain(), func(x *api.Tx) {}, 0},
		{base(), func(x *api.Tx) {}, 0},
		{api.Tx{}, func(x *api.Tx) {}, 101},
		{plain(), func(x *api.Tx) { x.Ins = nil }, 101},
		{plain(), func(x *api.Tx) { x.Ins = []api.In{} }, 101},
		{plain(), func(x *api.Tx) { x.Outs = nil }, 101},
		{plain(), func(x *api.Tx) { x.Outs = []api.Out{} }, 101},
		{base(), func(x *api.Tx) { x.Outs = nil }, 101},
		{plain(), func(x *api.Tx) { x.Ins = x.Ins[:1] }, 0},
		{plain(), func(x *api.Tx) { x.Outs = x.Outs[:1] }, 0},
		{plain(), func(x *api.Tx) { x.Version, x.Until = 0, 0 }, 0},
		{plain(), func(x *api.Tx) { x.Version, x.Until = math.MaxUint32, math.MaxUint32 }, 0},

		{plain(), func(x *api.Tx) { x.Outs[0].Value = 2000000000000 - 7 }, 0},
		{plain(), func(x *api.Tx) { x.Outs[0].Value = 2000000000000 - 6 }, 91},
		{plain(), func(x *api.Tx) { x.Outs[1].Value = 2000000000001 }, 91},
		{plain(), func(x *api.Tx) { x.Outs[1].Value = -1 }, 91},
		{plain(), func(x *api.Tx) { x.Outs[0].Value, x.Outs[1].Value = 0, 0 }, 0},
		{base(), func(x *api.Tx) { x.Outs[0].Value = 2000000000001 }, 91},
		{plain(), func(x *api.Tx) { x.Outs[0].Value, x.Outs[1].Value = math.MaxInt64, math.MaxInt64 }, 91},

		{plain(), func(x *api.Tx) { x.Ins[1].Ref = x.Ins[0].Ref }, 101},
		{plain(), func(x *api.Tx) { x.Ins[1] = x.Ins[0] }, 101},
		{plain(), func(x *api.Tx) { x.Ins[1].Unlock, x.Ins[1].Order = x.Ins[0].Unlock, x.Ins[0].Order }, 0},
		{plain(), func(x *api.Tx) { x.Ins = append(x.Ins, api.In{Ref: x.Ins[0].Ref, Order: 5}) }, 101},
		{plain(), func(x *api.Tx) { x.Ins = append(x.Ins, api.In{Ref: x.Ins[1].Ref, Unlock: []byte{5}}) }, 101},
		{plain(), func(x *api.Tx) { x.Ins = append(x.Ins, api.In{}) }, 0},
		{plain(), func(x *api.Tx) { x.Ins = append(x.Ins, api.In{}, api.In{}) }, 101},
		{plain(), func(x *api.Tx) { x.Ins[1].Ref = api.Ref{Id: api.Hash{0: 1, 31: 3}, At: 0x05060708} }, 0},
		{plain(), func(x *api.Tx) { x.Ins[1].Ref = api.Ref{Id: api.Hash{0: 2, 31: 2}, At: 0x05060708} }, 0},
		{plain(), func(x *api.Tx) { x.Ins[1].Ref.At = 0x05060709 }, 0},
		{plain(), func(x *api.Tx) { x.Outs[1] = x.Outs[0] }, 0},

		{base(), func(x *api.Tx) { x.Ins[0].Unlock = nil }, 101},
		{base(), func(x *api.Tx) { x.Ins[0].Unlock = sample(1) }, 101},
		{base(), func(x *api.Tx) { x.Ins[0].Unlock = sample(2) }, 0},
		{base(), func(x *api.Tx) { x.Ins[0].Unlock = sample(3) }, 0},
		{base(), func(x *api.Tx) { x.Ins[0].Unlock = sample(99) }, 0},
		{base(), func(x *api.Tx) { x.Ins[0].Unlock = sample(100) }, 0},
		{base(), func(x *api.Tx) { x.Ins[0].Unlock = sample(101) }, 101},
		{base(), func(x *api.Tx) { x.Ins[0].Unlock = sample(356) }, 101},
		{base(), func(x *api.Tx) { x.Ins[0].Order = 9 }, 0},
		{base(), func(x *api.Tx) { x.Outs = append(x.Outs, x.Outs[0]) }, 0},
		// Where something is spent, an Unlock may be of any length.
		{plain(), func(x *api.Tx) { x.Ins = x.Ins[:1]; x.Ins[0].Unlock = nil }, 0},
		{plain(), func(x *api.Tx) { x.Ins = x.Ins[:1]; x.Ins[0].Unlock = sample(1) }, 0},
		{plain(), func(x *api.Tx) { x.Ins = x.Ins[:1]; x.Ins[0].Unlock = sample(101) }, 0},
		{plain(), func(x *api.Tx) { x.Ins[1].Unlock = sample(2500) }, 0},
		{plain(), func(x *api.Tx) { x.Outs[1].Lock = sample(2500) }, 0},

		{plain(), func(x *api.Tx) { x.Ins[0].Ref = null }, 101},
		{plain(), func(x *api.Tx) { x.Ins[1].Ref = null }, 101},
		{plain(), func(x *api.Tx) { x.Ins[1].Ref, x.Ins[1].Unlock = null, sample(50) }, 101},
		{plain(), func(x *api.Tx) { x.Ins[0].Ref, x.Ins[1].Ref = null, null }, 101},
		{plain(), func(x *api.Tx) { x.Ins[1].Ref = api.Ref{} }, 0},
		{plain(), func(x *api.Tx) { x.Ins[1].Ref = api.Ref{At: math.MaxUint32 - 1} }, 0},
		{plain(), func(x *api.Tx) { x.Ins[1].Ref = api.Ref{Id: api.Hash{31: 1}, At: math.MaxUint32} }, 0},
	} {
		x := c.x
		c.change(&x)
		if got := tx.Check(x); got != c.e {
			t.Errorf("%d: error %d, want %d", i, got, c.e)
		}
		holdAll(t, x)
	}
}

// P10.2: how long one may be: up to MaxTx, wherever its bytes are.
func TestCheckLength(t *testing.T) {
	for size, want := range map[int]api.Errno{4999: 0, 5000: 0, 5001: 101, 5002: 101, 10000: 101, 60000: 101} {
		// The length of what is filled up has two bytes more than before.
		filling := sample(size - len(bytesReference(plain())) - 2)
		locked, unlocked := plain(), plain()
		locked.Outs[1].Lock = filling
		unlocked.Ins[1].Unlock = filling
		for _, x := range []api.Tx{locked, unlocked} {
			if n := len(tx.Bytes(x)); n != size {
				t.Fatalf("%d bytes, want %d", n, size)
			}
			if got := tx.Check(x); got != want {
				t.Errorf("%d bytes: error %d, want %d", size, got, want)
			}
		}
	}
	// Many Ins, or many Outs.
	for _, c := range []struct {
		ins, outs, lock int
		e               api.Errno
	}{
		{121, 1, 20, 0}, {121, 1, 21, 101}, {122, 1, 0, 101}, {300, 1, 0, 101},
		{1, 549, 6, 0}, {1, 549, 7, 101}, {1, 550, 0, 101}, {1, 600, 0, 101},
	} {
		x := many(c.ins, c.outs, 0)
		x.Outs[0].Lock = sample(c.lock)
		if n := len(bytesReference(x)); n > 5000 != (c.e == api.ErrTx) {
			t.Fatalf("%d Ins, %d Outs: %d bytes", c.ins, c.outs, n)
		}
		if got := tx.Check(x); got != c.e {
			t.Errorf("%d Ins, %d Outs, %d bytes: error %d", c.ins, c.outs, c.lock, got)
		}
	}
}

// P10.2: which error is told, of two: ErrMoney behind the first three, ahead
// of the others.
func TestCheckOrder(t *testing.T) {
	wrong := func(x *api.Tx) { x.Outs[0].Value = -1 }
	for i, c := range []struct {
		x      api.Tx
		change func(x *api.Tx)
		e      api.Errno
	}{
		{plain(), func(x *api.Tx) { x.Ins = nil }, 101},
		{plain(), func(x *api.Tx) { x.Outs[1].Lock = sample(5000) }, 101},
		{plain(), func(x *api.Tx) { x.Ins[1].Unlock = sample(5000) }, 101},
		{plain(), func(x *api.Tx) { x.Ins[1].Ref = x.Ins[0].Ref }, 91},
		{base(), func(x *api.Tx) { x.Ins[0].Unlock = nil }, 91},
		{base(), func(x *api.Tx) { x.Ins[0].Unlock = sample(101) }, 91},
		{plain(), func(x *api.Tx) { x.Ins[1].Ref = null }, 91},
		{plain(), func(x *api.Tx) {}, 91},
	} {
		x := c.x
		wrong(&x)
		c.change(&x)
		if got := tx.Check(x); got != c.e {
			t.Errorf("%d: error %d, want %d", i, got, c.e)
		}
		holdAll(t, x)
	}
}

// P10.2: a reference that stands twice, wherever it stands among others.
func TestCheckTwice(t *testing.T) {
	const n = 40
	if got := tx.Check(many(n, 1, 0)); got != api.OK {
		t.Fatal(got)
	}
	for i := range n {
		for j := range i {
			x := many(n, 1, 0)
			x.Ins[i].Ref = x.Ins[j].Ref
			if got := tx.Check(x); got != api.ErrTx {
				t.Errorf("%d, %d: error %d", i, j, got)
			}
		}
		x := many(n, 1, 0)
		x.Ins[i].Ref = null
		if got := tx.Check(x); got != api.ErrTx {
			t.Errorf("NULL at %d: error %d", i, got)
		}
	}
}

// P10.2: mixed ones, beside the reference.
func TestCheckMixed(t *testing.T) {
	r := rand.New(rand.NewSource(103))
	seen := map[api.Errno]int{}
	bases := 0
	for range 30000 {
		x := mixed(r)
		seen[holdAll(t, x)]++
		if tx.Base(x) && tx.Check(x) == api.OK {
			bases++
		}
	}
	if len(seen) != 3 || seen[0] < 1000 || seen[91] < 1000 || seen[101] < 1000 || bases < 100 {
		t.Error(seen, bases)
	}
}

// P10.1: mixed ones, held against each other: as their bytes are.
func TestSameMixed(t *testing.T) {
	r := rand.New(rand.NewSource(104))
	var l []api.Tx
	for range 80 {
		x := mixed(r)
		l = append(l, x, copied(x), api.Tx{Version: x.Version, Ins: x.Ins, Until: x.Until}, api.Tx{Outs: x.Outs})
	}
	for _, a := range l {
		for _, b := range l {
			if got := tx.Same(a, b); got != isSame(a, b) || got != bytes.Equal(bytesReference(a), bytesReference(b)) {
				t.Fatalf("Same of %+v and %+v: %t", a, b, got)
			}
		}
	}
}

// indexes are of an In, and of none.
var indexes = []int{0, 1, 2, 3, -1, -2, 199, 200, 255, 256, math.MaxInt32, math.MaxInt32 + 1, math.MaxUint32, math.MaxUint32 + 1, math.MaxUint32 + 2,
	math.MinInt32, 1 << 40, math.MaxInt, math.MinInt}

func holdHash(t *testing.T, x api.Tx, i int, lock []byte) {
	t.Helper()
	if got := tx.Hash(x, i, lock); got != hashReference(x, i, lock) {
		t.Fatalf("Hash of %+v, %d, %.40x: %x", x, i, lock, got)
	}
}

// P10.3: what is signed, written out.
func TestHashWritten(t *testing.T) {
	x := plain()
	bare := plain()
	bare.Ins[0].Unlock = nil
	none := bytesReference(bare)
	bare.Ins[0].Unlock = []byte{81, 82, 83}
	first := bytesReference(bare)
	bare.Ins[0].Unlock, bare.Ins[1].Unlock = nil, []byte{81, 82, 83}
	second := bytesReference(bare)
	lock := []byte{81, 82, 83}
	for _, c := range []struct {
		i     int
		lock  []byte
		bytes []byte
		four  []byte
	}{
		{0, lock, first, []byte{0, 0, 0, 0}},
		{1, lock, second, []byte{1, 0, 0, 0}},
		{0, nil, none, []byte{0, 0, 0, 0}},
		{1, []byte{}, none, []byte{1, 0, 0, 0}},
		{2, lock, none, []byte{2, 0, 0, 0}},
		{0x01020304, lock, none, []byte{4, 3, 2, 1}},
		{-1, lock, none, []byte{255, 255, 255, 255}},
		{-2, lock, none, []byte{254, 255, 255, 255}},
		{math.MinInt32, lock, none, []byte{0, 0, 0, 128}},
		// As 32 bits it would be that of an In; yet there is no such one.
		{1 << 32, lock, none, []byte{0, 0, 0, 0}},
		{1<<32 + 1, lock, none, []byte{1, 0, 0, 0}},
		{math.MinInt, lock, none, []byte{0, 0, 0, 0}},
		{math.MaxInt, lock, none, []byte{255, 255, 255, 255}},
	} {
		if got := tx.Hash(x, c.i, c.lock); got != twiceReference(append(bytes.Clone(c.bytes), c.four...)) {
			t.Errorf("%d, %x: %x", c.i, c.lock, got)
		}
	}
	if !isSame(x, plain()) {
		t.Error("changed")
	}
}

// P10.3: all edges, and locks of all lengths.
func TestHash(t *testing.T) {
	for _, x := range []api.Tx{{}, plain(), base(), many(200, 3, 20), {Ins: []api.In{{Unlock: sample(9)}}}, {Outs: plain().Outs}} {
		for _, i := range indexes {
			for _, n := range []int{0, 1, 25, 252, 253, 2000, 2001, 65536} {
				holdHash(t, x, i, sample(n))
			}
			holdHash(t, x, i, nil)
		}
	}
}

// P10.3: no Unlock hangs on it; all else does.
func TestHashHangsOn(t *testing.T) {
	lock := []byte{81}
	for i := range 2 {
		h := tx.Hash(plain(), i, lock)
		for at := range 2 {
			x := plain()
			x.Ins[at].Unlock = sample(300)
			if tx.Hash(x, i, lock) != h {
				t.Errorf("%d hangs on the Unlock of %d", i, at)
			}
		}
		for n, change := range []func(x *api.Tx){
			func(x *api.Tx) { x.Version++ },
			func(x *api.Tx) { x.Until++ },
			func(x *api.Tx) { x.Ins[0].Order++ },
			func(x *api.Tx) { x.Ins[1].Order++ },
			func(x *api.Tx) { x.Ins[0].Ref.At++ },
			func(x *api.Tx) { x.Ins[1].Ref.Id[5]++ },
			func(x *api.Tx) { x.Ins = append(x.Ins, api.In{}) },
			func(x *api.Tx) { x.Outs = x.Outs[:1] },
			func(x *api.Tx) { x.Outs[0].Value++ },
			func(x *api.Tx) { x.Outs[1].Lock = []byte{1} },
		} {
			x := plain()
			change(&x)
			if tx.Hash(x, i, lock) == h {
				t.Errorf("%d doesn't hang on change %d", i, n)
			}
		}
		if tx.Hash(plain(), i, []byte{82}) == h || tx.Hash(plain(), 1-i, lock) == h {
			t.Errorf("%d", i)
		}
	}
}

// P10.3: mixed ones, beside the reference.
func TestHashMixed(t *testing.T) {
	r := rand.New(rand.NewSource(105))
	for range 5000 {
		holdHash(t, mixed(r), indexes[r.Intn(len(indexes))], sample(r.Intn(300)))
	}
}

func FuzzTx(f *testing.F) {
	f.Add(uint32(1), uint32(2), uint32(3), uint32(math.MaxUint32), []byte{}, []byte{4, 5}, []byte{81}, int64(300), 0, uint8(1), uint8(1))
	f.Add(uint32(1), uint32(2), uint32(3), uint32(7), sample(32), sample(101), sample(2001), int64(-1), -1, uint8(3), uint8(2))
	f.Add(uint32(1), uint32(2), uint32(3), uint32(7), sample(32), sample(40), sample(100), int64(1), 1, uint8(200), uint8(201))
	f.Fuzz(func(t *testing.T, version, until, order, at uint32, id, unlock, lock []byte, value int64, i int, ins, outs uint8) {
		x := api.Tx{Version: version, Until: until}
		for n := range ins {
			in := api.In{Ref: api.Ref{At: at + uint32(n/2)}, Unlock: unlock, Order: order}
			copy(in.Ref.Id[:], id)
			in.Ref.Id[31] ^= n % 2
			x.Ins = append(x.Ins, in)
		}
		for n := range outs {
			x.Outs = append(x.Outs, api.Out{Value: value + int64(n), Lock: lock})
		}
		holdAll(t, x)
		holdHash(t, x, i, lock)
		e := holdRead(t, bytesReference(x))
		if right := ins <= 200 && outs <= 200 && (ins == 0 || len(unlock) <= 2000) && (outs == 0 || len(lock) <= 2000); right != (e == api.OK) {
			t.Fatalf("Parse of %+v: error %d", x, e)
		}
	})
}
