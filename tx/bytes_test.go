package tx_test

import (
	"bytes"
	"math"
	"math/rand"
	"slices"
	"testing"

	"byname/api"
	"byname/piece"
	"byname/tx"
)

// P10.1: transactions, written out.
func TestBytesWritten(t *testing.T) {
	noughts := make([]byte, 30)
	id := slices.Concat([]byte{1}, noughts, []byte{2})
	for i, c := range []struct {
		x    api.Tx
		want []byte
	}{
		{api.Tx{}, make([]byte, 10)},
		{api.Tx{Version: 0x01020304, Until: 0x05060708, Ins: []api.In{}, Outs: []api.Out{}}, []byte{4, 3, 2, 1, 0, 0, 8, 7, 6, 5}},
		{plain(), slices.Concat(
			[]byte{4, 3, 2, 1},
			[]byte{2},
			id, []byte{8, 7, 6, 5}, []byte{2, 9, 10}, []byte{14, 13, 12, 11},
			id, []byte{4, 0, 0, 0}, []byte{0}, []byte{0, 0, 0, 0},
			[]byte{2},
			[]byte{5, 4, 3, 2, 1, 0, 0, 0}, []byte{1, 81},
			[]byte{7, 0, 0, 0, 0, 0, 0, 0}, []byte{0},
			[]byte{18, 17, 16, 15},
		)},
		{base(), slices.Concat(
			[]byte{1, 0, 0, 0},
			[]byte{1},
			make([]byte, 32), []byte{255, 255, 255, 255}, []byte{2, 3, 4}, []byte{0, 0, 0, 0},
			[]byte{1},
			[]byte{0, 0xF2, 5, 42, 1, 0, 0, 0}, []byte{1, 81},
			[]byte{0, 0, 0, 0},
		)},
		{api.Tx{Outs: []api.Out{{Value: -2}}}, []byte{0, 0, 0, 0, 0, 1, 254, 255, 255, 255, 255, 255, 255, 255, 0, 0, 0, 0, 0}},
	} {
		if b := tx.Bytes(c.x); !bytes.Equal(b, c.want) {
			t.Errorf("%d: Bytes %x, want %x", i, b, c.want)
		}
		if got, e := tx.Parse(c.want); !isSame(got, c.x) || e != api.OK {
			t.Errorf("%d: Parse %+v, error %d", i, got, e)
		}
		holdRead(t, c.want)
	}
}

// P10.1: so many Ins and Outs as their Counts have edges, and as are read at
// most.
func TestCounts(t *testing.T) {
	for _, ins := range []int{0, 1, 2, 199, 200, 201, 252, 253, 254, 1000, 65535, 65536} {
		for _, outs := range []int{0, 1, 2, 199, 200, 201, 252, 253, 254, 1000, 65536} {
			if ins > 1000 && outs > 2 || outs > 1000 && ins > 2 {
				continue
			}
			x := many(ins, outs, 3)
			b := tx.Bytes(x)
			if !bytes.Equal(b, bytesReference(x)) {
				t.Fatalf("Bytes of %d, %d: %.40x", ins, outs, b)
			}
			want := api.OK
			if ins > 200 || outs > 200 {
				want = api.ErrForm
			}
			if e := holdRead(t, b); e != want {
				t.Fatalf("%d Ins, %d Outs: error %d", ins, outs, e)
			}
			got, e := tx.Parse(b)
			if want == api.OK && !isSame(got, x) || want != api.OK && !isZero(got) || e != want {
				t.Fatalf("%d Ins, %d Outs: %d, %d, error %d", ins, outs, len(got.Ins), len(got.Outs), e)
			}
		}
	}
}

// P10.1: Unlocks and Locks of all lengths: of more than MaxScript they are
// written, but not read.
func TestLengths(t *testing.T) {
	for _, n := range []int{0, 1, 100, 101, 252, 253, 254, 255, 256, 520, 1999, 2000, 2001, 65535, 65536} {
		unlocked, locked := plain(), plain()
		unlocked.Ins[1].Unlock = sample(n)
		locked.Outs[1].Lock = sample(n)
		want := api.OK
		if n > 2000 {
			want = api.ErrForm
		}
		for _, x := range []api.Tx{unlocked, locked} {
			b := tx.Bytes(x)
			if !bytes.Equal(b, bytesReference(x)) {
				t.Fatalf("Bytes with %d: %.80x", n, b)
			}
			if e := holdRead(t, b); e != want {
				t.Fatalf("%d bytes: error %d", n, e)
			}
		}
	}
}

// P10.1: transactions that are too long for Check, or hold what can't be, are
// still written and read.
func TestParseAnything(t *testing.T) {
	long := many(200, 200, 2000)
	for i, x := range []api.Tx{
		long,
		{Version: math.MaxUint32, Until: math.MaxUint32},
		{Ins: []api.In{{Ref: null}, {Ref: null}}, Outs: []api.Out{{Value: math.MinInt64}, {Value: math.MaxInt64}}},
		{Ins: []api.In{{Ref: null, Unlock: []byte{1}, Order: math.MaxUint32}}},
	} {
		if got, e := tx.Parse(tx.Bytes(x)); !isSame(got, x) || e != api.OK {
			t.Errorf("%d: error %d", i, e)
		}
	}
}

// P10.1: each beginning is too short; each of a byte more has something left.
func TestParseShort(t *testing.T) {
	for _, x := range []api.Tx{{}, plain(), base(), many(3, 2, 260), many(60, 0, 0), many(0, 60, 0)} {
		b := tx.Bytes(x)
		for less := range b {
			if got, e := tx.Parse(b[:less]); !isZero(got) || e != api.ErrShort {
				t.Fatalf("%d of %d bytes: %+v, error %d", less, len(b), got, e)
			}
			holdRead(t, b[:less])
		}
		for _, more := range []int{1, 2, 100} {
			if got, e := tx.Parse(append(bytes.Clone(b), sample(more)...)); !isZero(got) || e != api.ErrForm {
				t.Fatalf("%d more than %d bytes: %+v, error %d", more, len(b), got, e)
			}
		}
	}
}

// P10.1: which error is told: that of the piece that comes first.
func TestParseOrder(t *testing.T) {
	version := []byte{1, 0, 0, 0}
	from := slices.Concat(make([]byte, 32), []byte{5, 0, 0, 0})
	value := []byte{9, 0, 0, 0, 0, 0, 0, 0}
	spread := []byte{253, 3, 0}
	for i, c := range []struct {
		parts [][]byte
		e     api.Errno
	}{
		{nil, 61},
		{[][]byte{version[:3]}, 61},
		{[][]byte{version}, 61},
		{[][]byte{version, {253}}, 61},
		{[][]byte{version, {253, 1}}, 61},
		{[][]byte{version, spread}, 62},
		{[][]byte{version, {201}}, 62},
		{[][]byte{version, {200}}, 61},
		{[][]byte{version, {253, 201, 0}}, 62},
		{[][]byte{version, {253, 0, 1}}, 62},
		{[][]byte{version, {255, 255, 255, 255, 255, 255, 255, 255, 255}}, 62},
		{[][]byte{version, {1}, from[:31]}, 61},
		{[][]byte{version, {1}, from[:35]}, 61},
		{[][]byte{version, {1}, from}, 61},
		{[][]byte{version, {1}, from, spread}, 62},
		{[][]byte{version, {1}, from, {253, 0xD1, 0x07}}, 62},
		{[][]byte{version, {1}, from, {253, 0xD0, 0x07}}, 61},
		{[][]byte{version, {1}, from, {2, 1}}, 61},
		{[][]byte{version, {1}, from, {2, 1, 2}, {0, 0, 0}}, 61},
		{[][]byte{version, {1}, from, {2, 1, 2}, {0, 0, 0, 0}}, 61},
		{[][]byte{version, {1}, from, {2, 1, 2}, {0, 0, 0, 0}, spread}, 62},
		{[][]byte{version, {1}, from, {2, 1, 2}, {0, 0, 0, 0}, {201}}, 62},
		{[][]byte{version, {2}, from, {0}, {0, 0, 0, 0}, from, spread}, 62},
		{[][]byte{version, {0}, {201}}, 62},
		{[][]byte{version, {0}, {200}}, 61},
		{[][]byte{version, {0}, {253, 201, 0}}, 62},
		{[][]byte{version, {0}, {1}, value[:7]}, 61},
		{[][]byte{version, {0}, {1}, value}, 61},
		{[][]byte{version, {0}, {1}, value, spread}, 62},
		{[][]byte{version, {0}, {1}, value, {253, 0xD1, 0x07}}, 62},
		{[][]byte{version, {0}, {1}, value, {253, 0xD0, 0x07}}, 61},
		{[][]byte{version, {0}, {1}, value, {1, 81}}, 61},
		{[][]byte{version, {0}, {1}, value, {1, 81}, {0, 0, 0}}, 61},
		{[][]byte{version, {0}, {1}, value, {1, 81}, {0, 0, 0, 0}}, 0},
		{[][]byte{version, {0}, {1}, value, {1, 81}, {0, 0, 0, 0}, {0}}, 62},
		{[][]byte{version, {0}, {0}, {0, 0, 0}}, 61},
		{[][]byte{version, {0}, {0}, {0, 0, 0, 0}}, 0},
		{[][]byte{version, {0}, {0}, {0, 0, 0, 0}, version}, 62},
	} {
		b := slices.Concat(c.parts...)
		if got, e := tx.Parse(b); e != c.e || e != api.OK && !isZero(got) {
			t.Errorf("%d: Parse of %x: %+v, error %d, want %d", i, b, got, e, c.e)
		}
		holdRead(t, b)
		if c.e == 62 {
			holdRead(t, append(b, sample(3000)...))
		}
	}
}

// P10.1: a Reader that is BAD gives a zero one, and stays as it is.
func TestReadBad(t *testing.T) {
	for _, c := range []struct {
		ahead []byte
		spoil func(r *piece.Reader)
		e     api.Errno
	}{
		{nil, func(r *piece.Reader) { r.Raw(100000) }, 61},
		{[]byte{253, 0, 0}, func(r *piece.Reader) { r.Count(9) }, 62},
	} {
		r := piece.New(append(bytes.Clone(c.ahead), tx.Bytes(plain())...))
		c.spoil(r)
		left := r.Left()
		for range 2 {
			if got := tx.Read(r); !isZero(got) || r.Err() != c.e || r.Left() != left {
				t.Errorf("%+v, error %d, left %d, want %d, %d", got, r.Err(), r.Left(), c.e, left)
			}
		}
	}
}

// P10.1: what stands next: rows of transactions, with other pieces between
// them.
func TestReadRow(t *testing.T) {
	random := rand.New(rand.NewSource(101))
	for range 200 {
		var b []byte
		var wanted []api.Tx
		for range 1 + random.Intn(6) {
			x := mixed(random)
			if e := holdRead(t, tx.Bytes(x)); e != api.OK {
				continue
			}
			b = append(append(b, tx.Bytes(x)...), byte(len(wanted)))
			wanted = append(wanted, x)
		}
		r := piece.New(b)
		for i, want := range wanted {
			if got := tx.Read(r); !isSame(got, want) || r.Fixed(1) != uint64(i) || r.Err() != api.OK {
				t.Fatalf("%d of %d: %+v, want %+v, error %d", i, len(wanted), got, want, r.Err())
			}
		}
		if r.Left() != 0 {
			t.Fatalf("left %d", r.Left())
		}
	}
}

// P10.1: each byte, changed to each other one, taken out, or doubled.
func TestParseChanged(t *testing.T) {
	seen := map[api.Errno]int{}
	for _, x := range []api.Tx{{}, plain(), base(), many(1, 1, 253)} {
		b := tx.Bytes(x)
		for at := range b {
			for with := range 256 {
				changed := bytes.Clone(b)
				changed[at] = byte(with)
				seen[holdRead(t, changed)]++
			}
			seen[holdRead(t, slices.Concat(b[:at], b[at+1:]))]++
			seen[holdRead(t, slices.Concat(b[:at+1], b[at:]))]++
		}
	}
	if len(seen) != 3 || seen[0] < 1000 || seen[61] < 1000 || seen[62] < 1000 {
		t.Error(seen)
	}
}

// P10.1: mixed transactions, spoiled in part.
func TestParseMixed(t *testing.T) {
	r := rand.New(rand.NewSource(102))
	seen := map[api.Errno]int{}
	for range 8000 {
		b := tx.Bytes(mixed(r))
		switch r.Intn(5) {
		case 0:
			b = b[:r.Intn(len(b))]
		case 1:
			b = append(b, byte(r.Intn(256)))
		case 2:
			b[r.Intn(len(b))] = byte(r.Intn(256))
		}
		seen[holdRead(t, b)]++
	}
	if len(seen) != 3 || seen[0] < 1000 || seen[61] < 1000 || seen[62] < 1000 {
		t.Error(seen)
	}
}

// same asks both ways round.
func same(t *testing.T, a, b api.Tx, want bool) {
	t.Helper()
	if tx.Same(a, b) != want || tx.Same(b, a) != want {
		t.Errorf("Same of %+v and %+v: %t, %t, want %t", a, b, tx.Same(a, b), tx.Same(b, a), want)
	}
}

// P10.1: one is the same as another one that differs nowhere; nil and empty
// are one, and spare room doesn't count.
func TestSame(t *testing.T) {
	same(t, api.Tx{}, api.Tx{Ins: []api.In{}, Outs: []api.Out{}}, true)
	for _, x := range []api.Tx{{}, plain(), base(), many(3, 4, 300)} {
		same(t, x, x, true)
		same(t, x, copied(x), true)
	}
	roomed := plain()
	roomed.Ins[0].Unlock = roomy(roomed.Ins[0].Unlock)
	roomed.Outs[0].Lock = roomy(roomed.Outs[0].Lock)
	same(t, roomed, plain(), true)
	emptied := plain()
	emptied.Ins[1].Unlock, emptied.Outs[1].Lock = []byte{}, []byte{}
	same(t, emptied, plain(), true)
}

// P10.1: each place in which they may differ.
func TestSameNot(t *testing.T) {
	for _, change := range []func(x *api.Tx){
		func(x *api.Tx) { x.Version++ },
		func(x *api.Tx) { x.Version ^= 1 << 31 },
		func(x *api.Tx) { x.Until++ },
		func(x *api.Tx) { x.Until ^= 1 << 31 },
		func(x *api.Tx) { x.Version, x.Until = x.Until, x.Version },
		func(x *api.Tx) { x.Ins = x.Ins[:1] },
		func(x *api.Tx) { x.Ins = x.Ins[1:] },
		func(x *api.Tx) { x.Ins = nil },
		func(x *api.Tx) { x.Ins = append(x.Ins, api.In{}) },
		func(x *api.Tx) { x.Ins[0], x.Ins[1] = x.Ins[1], x.Ins[0] },
		func(x *api.Tx) { x.Ins[0].Ref.Id[0]++ },
		func(x *api.Tx) { x.Ins[1].Ref.Id[31]++ },
		func(x *api.Tx) { x.Ins[0].Ref.At++ },
		func(x *api.Tx) { x.Ins[1].Ref.At ^= 1 << 31 },
		func(x *api.Tx) { x.Ins[0].Order++ },
		func(x *api.Tx) { x.Ins[1].Order ^= 1 << 31 },
		func(x *api.Tx) { x.Ins[0].Unlock = []byte{9, 11} },
		func(x *api.Tx) { x.Ins[0].Unlock = []byte{8, 10} },
		func(x *api.Tx) { x.Ins[0].Unlock = []byte{9} },
		func(x *api.Tx) { x.Ins[0].Unlock = []byte{9, 10, 0} },
		func(x *api.Tx) { x.Ins[0].Unlock = nil },
		func(x *api.Tx) { x.Ins[1].Unlock = []byte{0} },
		func(x *api.Tx) { x.Outs = x.Outs[:1] },
		func(x *api.Tx) { x.Outs = x.Outs[1:] },
		func(x *api.Tx) { x.Outs = nil },
		func(x *api.Tx) { x.Outs = append(x.Outs, api.Out{}) },
		func(x *api.Tx) { x.Outs[0], x.Outs[1] = x.Outs[1], x.Outs[0] },
		func(x *api.Tx) { x.Outs[0].Value++ },
		func(x *api.Tx) { x.Outs[1].Value = -x.Outs[1].Value },
		func(x *api.Tx) { x.Outs[0].Lock = []byte{82} },
		func(x *api.Tx) { x.Outs[0].Lock = []byte{81, 0} },
		func(x *api.Tx) { x.Outs[0].Lock = nil },
		func(x *api.Tx) { x.Outs[1].Lock = []byte{0} },
	} {
		x := copied(plain())
		change(&x)
		same(t, x, plain(), false)
	}
}

// P1: long ones, and many of them.
func TestBeyond(t *testing.T) {
	great := make([]byte, 1<<22)
	holdRead(t, great)
	x := api.Tx{Ins: []api.In{{Unlock: great}}, Outs: []api.Out{{Lock: great}}}
	if e := holdAll(t, x); e != api.ErrTx {
		t.Error(e)
	}
	if e := holdRead(t, tx.Bytes(x)); e != api.ErrForm {
		t.Error(e)
	}
	holdHash(t, x, 0, great)
	wide := many(200000, 200000, 0)
	b := tx.Bytes(wide)
	if !bytes.Equal(b, bytesReference(wide)) {
		t.Errorf("%d bytes", len(b))
	}
	if e := holdRead(t, b); e != api.ErrForm {
		t.Error(e)
	}
	if e := tx.Check(wide); e != api.ErrTx {
		t.Error(e)
	}
}

// crowded is plain with spare room in each list, and more elements there.
func crowded() api.Tx {
	x := plain()
	for i := range x.Ins {
		x.Ins[i].Unlock = roomy(x.Ins[i].Unlock)
	}
	for i := range x.Outs {
		x.Outs[i].Lock = roomy(x.Outs[i].Lock)
	}
	x.Ins = append(x.Ins, api.In{Order: 77}, api.In{Unlock: []byte{78}})[:2]
	x.Outs = append(x.Outs, api.Out{Value: 79}, api.Out{Lock: []byte{80}})[:2]
	return x
}

// whole is all that x is made of, spare room included.
func whole(x api.Tx) []byte {
	b := tx.Bytes(api.Tx{Version: x.Version, Ins: x.Ins[:cap(x.Ins)], Outs: x.Outs[:cap(x.Outs)], Until: x.Until})
	for _, in := range x.Ins {
		b = append(b, in.Unlock[:cap(in.Unlock)]...)
	}
	for _, o := range x.Outs {
		b = append(b, o.Lock[:cap(o.Lock)]...)
	}
	return b
}

// The rules: what is handed in isn't changed, nor shared, spare room included.
func TestUnchanged(t *testing.T) {
	x, lock := crowded(), roomy([]byte{81, 82})
	before, lockBefore := whole(x), bytes.Clone(lock[:cap(lock)])
	filled(tx.Bytes(x), 0xAA)
	tx.Id(x)
	tx.Same(x, x)
	tx.Base(x)
	tx.Check(x)
	for i := -1; i < 6; i++ {
		tx.Hash(x, i, lock)
	}
	if !bytes.Equal(whole(x), before) || !bytes.Equal(lock[:cap(lock)], lockBefore) {
		t.Error("changed, or shared")
	}

	b := roomy(tx.Bytes(x))
	before = bytes.Clone(b[:cap(b)])
	got, e := tx.Parse(b)
	if !isSame(got, x) || e != api.OK {
		t.Fatal(got, e)
	}
	for _, list := range listsOf(got) {
		filled(list, 0xBB)
	}
	if !bytes.Equal(b[:cap(b)], before) {
		t.Error("Parse has changed it, or shares it")
	}
}

func listsOf(x api.Tx) [][]byte {
	var l [][]byte
	for _, in := range x.Ins {
		l = append(l, in.Unlock)
	}
	for _, o := range x.Outs {
		l = append(l, o.Lock)
	}
	return l
}

// The rules: no two lists of one answer share any memory.
func TestApart(t *testing.T) {
	x := many(5, 5, 9)
	got, e := tx.Parse(tx.Bytes(x))
	if e != api.OK {
		t.Fatal(e)
	}
	lists, wanted := listsOf(got), listsOf(x)
	for i, list := range lists {
		if !bytes.Equal(list, wanted[i]) {
			t.Errorf("%d was written over", i)
		}
		filled(list, 0xCC)
	}
}

// The rules: nothing is kept: answers, and what was handed in, may be written
// over, and all is answered anew.
func TestNotKept(t *testing.T) {
	for range 3 {
		b := tx.Bytes(plain())
		r := piece.New(append(bytes.Clone(b), b...))
		one, e := tx.Parse(b)
		filled(b, 0xAA)
		if !isSame(one, plain()) || e != api.OK {
			t.Errorf("%+v, error %d", one, e)
		}
		first := tx.Read(r)
		for _, list := range append(listsOf(first), listsOf(one)...) {
			filled(list, 0xBB)
		}
		filled(tx.Bytes(plain()), 0xCC)
		if second := tx.Read(r); !isSame(second, plain()) || r.Left() != 0 {
			t.Errorf("%+v", second)
		}
	}
}

func FuzzParse(f *testing.F) {
	f.Add([]byte{})
	for _, x := range []api.Tx{{}, plain(), base(), many(2, 2, 300), many(201, 1, 0), many(1, 1, 2001)} {
		f.Add(tx.Bytes(x))
	}
	f.Fuzz(func(t *testing.T, b []byte) {
		holdRead(t, b)
		if x, e := tx.Parse(b); e == api.OK {
			holdAll(t, x)
		}
	})
}
