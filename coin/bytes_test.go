package coin_test

import (
	"bytes"
	"encoding/binary"
	"math"
	"math/rand"
	"slices"
	"testing"

	"byname/api"
	"byname/coin"
	"byname/piece"
)

func refs() []api.Ref {
	var l []api.Ref
	for _, id := range []api.Hash{{}, {1}, {31: 1}, {1, 2, 31: 9}, api.Hash(sample(32)), api.Hash(bytes.Repeat([]byte{255}, 32))} {
		for _, at := range []uint32{0, 1, 255, 256, 65535, 65536, 1<<24 - 1, 1 << 24, 0x01020304, 1 << 31, math.MaxUint32} {
			l = append(l, api.Ref{Id: id, At: at})
		}
	}
	return l
}

// P9.2: references, written out and beside the reference, and read again.
func TestRef(t *testing.T) {
	b := coin.RefBytes(api.Ref{Id: api.Hash{0: 7, 31: 9}, At: 0x01020304})
	if want := slices.Concat([]byte{7}, make([]byte, 30), []byte{9, 4, 3, 2, 1}); !bytes.Equal(b, want) {
		t.Errorf("%x, want %x", b, want)
	}
	for _, ref := range refs() {
		b := coin.RefBytes(ref)
		if !bytes.Equal(b, refReference(ref)) {
			t.Fatalf("RefBytes of %v: %x", ref, b)
		}
		if got := coin.RefRead(piece.New(b)); got != ref {
			t.Fatalf("RefRead of %x: %v", b, got)
		}
		for n := range len(b) + 1 {
			holdRefRead(t, b[:n])
			holdRefRead(t, b[n:])
		}
		holdRefRead(t, slices.Concat(b, b, []byte{5}))
	}
}

// P9.2: outputs, written out.
func TestOutWritten(t *testing.T) {
	long := sample(253)
	for i, c := range []struct {
		o    api.Out
		want []byte
	}{
		{api.Out{}, []byte{0, 0, 0, 0, 0, 0, 0, 0, 0}},
		{api.Out{Value: 1, Lock: []byte{}}, []byte{1, 0, 0, 0, 0, 0, 0, 0, 0}},
		{api.Out{Value: 0x0102030405060708, Lock: []byte{9, 10}}, []byte{8, 7, 6, 5, 4, 3, 2, 1, 2, 9, 10}},
		{api.Out{Value: -2, Lock: []byte{81}}, []byte{254, 255, 255, 255, 255, 255, 255, 255, 1, 81}},
		{api.Out{Value: math.MinInt64}, []byte{0, 0, 0, 0, 0, 0, 0, 128, 0}},
		{api.Out{Value: math.MaxInt64}, []byte{255, 255, 255, 255, 255, 255, 255, 127, 0}},
		{api.Out{Value: 300, Lock: long}, append([]byte{44, 1, 0, 0, 0, 0, 0, 0, 253, 253, 0}, long...)},
	} {
		b := coin.OutBytes(c.o)
		if !bytes.Equal(b, c.want) {
			t.Errorf("%d: %x, want %x", i, b, c.want)
		}
		r := piece.New(b)
		if got := coin.OutRead(r); !sameOut(got, c.o) || r.Err() != 0 || r.Left() != 0 {
			t.Errorf("%d: %v, error %d, left %d", i, got, r.Err(), r.Left())
		}
	}
}

// P9.2: outputs of all amounts, those that aren't MONEY too, and of all
// lengths; a Lock of more than MaxScript is written, but not read.
func TestOut(t *testing.T) {
	for _, value := range amounts {
		for _, n := range lengths {
			o := api.Out{Value: value, Lock: sample(n)}
			b := coin.OutBytes(o)
			if !bytes.Equal(b, outReference(o)) {
				t.Fatalf("OutBytes of %d with %d bytes: %.40x", value, n, b)
			}
			want := api.OK
			if n > 2000 {
				want = api.ErrForm
			}
			if e := holdOutRead(t, b); e != want {
				t.Fatalf("OutRead of %d with %d bytes: error %d", value, n, e)
			}
			holdOutRead(t, append(b, 1))
		}
	}
}

// P9.2: each beginning of an output is too short.
func TestOutShort(t *testing.T) {
	for _, n := range []int{0, 1, 252, 253, 300, 2000} {
		b := coin.OutBytes(api.Out{Value: -12345, Lock: sample(n)})
		for less := range b {
			if e := holdOutRead(t, b[:less]); e != api.ErrShort {
				t.Fatalf("%d of %d bytes: error %d", less, len(b), e)
			}
		}
	}
}

// P9.2: lengths that can't stand so.
func TestOutForm(t *testing.T) {
	for _, c := range []struct {
		length []byte
		e      api.Errno
	}{
		{[]byte{253, 252, 0}, 62},
		{[]byte{253, 0, 0}, 62},
		{[]byte{254, 1, 0, 0, 0}, 62},
		{[]byte{255, 1, 0, 0, 0, 0, 0, 0, 0}, 62},
		{[]byte{253, 0xD1, 0x07}, 62},
		{[]byte{253, 0xD0, 0x07}, 61},
		{[]byte{254, 0xD0, 0x07, 0, 0}, 62},
		{[]byte{255, 255, 255, 255, 255, 255, 255, 255, 255}, 62},
		{[]byte{255, 255, 255, 255, 255, 255, 255, 255, 127}, 62},
		{[]byte{253, 1}, 61},
		{[]byte{254, 1, 0, 0}, 61},
	} {
		b := slices.Concat([]byte{1, 2, 3, 4, 5, 6, 7, 8}, c.length)
		if e := holdOutRead(t, b); e != c.e {
			t.Errorf("%x: error %d, want %d", b, e, c.e)
		}
		if c.e == 62 {
			holdOutRead(t, append(b, sample(3000)...))
		}
	}
}

// P9.2: a BAD Reader gives zero values, and stays as it is.
func TestReadBad(t *testing.T) {
	good := slices.Concat(refReference(api.Ref{Id: api.Hash{3}, At: 4}), outReference(api.Out{Value: 5, Lock: []byte{6}}))
	for _, c := range []struct {
		ahead []byte
		spoil func(r *piece.Reader)
		e     api.Errno
	}{
		{nil, func(r *piece.Reader) { r.Raw(1000) }, 61},
		{[]byte{253, 0, 0}, func(r *piece.Reader) { r.Count(9) }, 62},
		{[]byte{8}, func(r *piece.Reader) { r.Text(7) }, 62},
	} {
		r := piece.New(slices.Concat(c.ahead, good))
		c.spoil(r)
		left := r.Left()
		for range 2 {
			if ref := coin.RefRead(r); ref != (api.Ref{}) || r.Err() != c.e || r.Left() != left {
				t.Errorf("RefRead: %v, error %d, left %d, want %d, %d", ref, r.Err(), r.Left(), c.e, left)
			}
			if o := coin.OutRead(r); o.Value != 0 || len(o.Lock) != 0 || r.Err() != c.e || r.Left() != left {
				t.Errorf("OutRead: %v, error %d, left %d, want %d, %d", o, r.Err(), r.Left(), c.e, left)
			}
		}
	}
}

// P9.2: what stands next: rows of references and outputs, with other pieces
// between them.
func TestReadRow(t *testing.T) {
	r := rand.New(rand.NewSource(92))
	all := refs()
	for range 300 {
		var b []byte
		var wanted []any
		for range 1 + r.Intn(10) {
			switch r.Intn(3) {
			case 0:
				ref := all[r.Intn(len(all))]
				b, wanted = append(b, coin.RefBytes(ref)...), append(wanted, ref)
			case 1:
				o := api.Out{Value: amounts[r.Intn(len(amounts))], Lock: sample(r.Intn(2001))}
				b, wanted = append(b, coin.OutBytes(o)...), append(wanted, o)
			default:
				n := r.Intn(256)
				b, wanted = append(b, byte(n)), append(wanted, n)
			}
		}
		p := piece.New(b)
		for i, w := range wanted {
			good := false
			switch w := w.(type) {
			case api.Ref:
				good = coin.RefRead(p) == w
			case api.Out:
				good = sameOut(coin.OutRead(p), w)
			case int:
				good = p.Fixed(1) == uint64(w)
			}
			if !good || p.Err() != 0 {
				t.Fatalf("%x: %d of %v, error %d", b, i, wanted, p.Err())
			}
		}
		if p.Left() != 0 {
			t.Fatalf("%x: left %d", b, p.Left())
		}
	}
}

// P9.3: coins, written out.
func TestCoinWritten(t *testing.T) {
	for i, c := range []struct {
		c    api.Coin
		want []byte
	}{
		{api.Coin{}, []byte{0, 0, 0, 0, 0, 0, 0, 0, 0, 0}},
		{api.Coin{Base: true}, []byte{1, 0, 0, 0, 0, 0, 0, 0, 0, 0}},
		{api.Coin{Height: 1}, []byte{2, 0, 0, 0, 0, 0, 0, 0, 0, 0}},
		{api.Coin{Height: 1, Base: true}, []byte{3, 0, 0, 0, 0, 0, 0, 0, 0, 0}},
		{api.Coin{Height: 126, Out: api.Out{Value: 258, Lock: []byte{81}}}, []byte{252, 2, 1, 0, 0, 0, 0, 0, 0, 1, 81}},
		{api.Coin{Height: 126, Base: true, Out: api.Out{Value: 258, Lock: []byte{81}}}, []byte{253, 253, 0, 2, 1, 0, 0, 0, 0, 0, 0, 1, 81}},
		{api.Coin{Height: 200, Out: api.Out{Value: 300, Lock: []byte{81}}}, []byte{253, 144, 1, 44, 1, 0, 0, 0, 0, 0, 0, 1, 81}},
		{api.Coin{Height: 1000000000, Base: true, Out: api.Out{Value: 2000000000000}},
			[]byte{254, 0x01, 0x94, 0x35, 0x77, 0x00, 0x20, 0x4A, 0xA9, 0xD1, 0x01, 0, 0, 0}},
	} {
		if b := coin.Bytes(c.c); !bytes.Equal(b, c.want) {
			t.Errorf("%d: Bytes %x, want %x", i, b, c.want)
		}
		if got, e := coin.Parse(c.want); !sameCoin(got, c.c) || e != api.OK {
			t.Errorf("%d: Parse %+v, error %d", i, got, e)
		}
	}
}

// rightCoins are such with all edges.
func rightCoins() []api.Coin {
	var l []api.Coin
	for _, height := range heights {
		for _, value := range amounts {
			for _, n := range lengths {
				if coin.Money(value) && n <= 2000 {
					o := api.Out{Value: value, Lock: sample(n)}
					l = append(l, api.Coin{Out: o, Height: height}, api.Coin{Out: o, Height: height, Base: true})
				}
			}
		}
	}
	return l
}

// P9.3: coins of all edges, beside the reference, and parsed again; with a
// byte more, and with one less.
func TestCoin(t *testing.T) {
	for _, c := range rightCoins() {
		b := coin.Bytes(c)
		if !bytes.Equal(b, coinReference(c)) {
			t.Fatalf("Bytes of %+v: %x", c, b)
		}
		if got, e := coin.Parse(b); !sameCoin(got, c) || e != api.OK {
			t.Fatalf("Parse of Bytes of %+v: %+v, error %d", c, got, e)
		}
		if e := holdParse(t, append(bytes.Clone(b), 0)); e != api.ErrForm {
			t.Fatalf("a byte more than %+v: error %d", c, e)
		}
		if e := holdParse(t, b[:len(b)-1]); e != api.ErrShort {
			t.Fatalf("a byte less than %+v: error %d", c, e)
		}
	}
}

// P9.3: each beginning of a coin is too short.
func TestParseShort(t *testing.T) {
	for _, height := range heights {
		b := coin.Bytes(api.Coin{Out: api.Out{Value: 1e12, Lock: sample(260)}, Height: height})
		for less := range b {
			if e := holdParse(t, b[:less]); e != api.ErrShort {
				t.Fatalf("%d of %x: error %d", less, b, e)
			}
		}
	}
}

// refuse parses what is no coin.
func refuse(t *testing.T, want api.Errno, parts ...[]byte) {
	t.Helper()
	b := slices.Concat(parts...)
	got, e := coin.Parse(b)
	if !sameCoin(got, api.Coin{}) || e != want {
		t.Errorf("Parse of %.60x: %+v, error %d, want %d", b, got, e, want)
	}
	holdParse(t, b)
}

// P9.3: the first Count, up to 2000000001 and no further, and in as few bytes
// as it needs.
func TestParseCount(t *testing.T) {
	out := outReference(api.Out{Value: 7, Lock: []byte{81}})
	for _, n := range []uint64{1999999999, 2000000000, 2000000001} {
		got, e := coin.Parse(append(countReference(n), out...))
		if e != api.OK || got.Height != int64(n/2) || got.Base != (n%2 == 1) {
			t.Errorf("%d: %+v, error %d", n, got, e)
		}
	}
	for _, n := range []uint64{2000000002, 2000000003, 1<<31 - 1, 1 << 31, 1<<32 - 1, 1 << 32, 1 << 33, 1<<63 + 2, math.MaxUint64} {
		refuse(t, api.ErrForm, countReference(n), out)
	}
	for _, count := range [][]byte{{253, 0, 0}, {253, 252, 0}, {254, 255, 255, 0, 0}, {255, 2, 0, 0, 0, 0, 0, 0, 0}, {255, 255, 255, 255, 255, 0, 0, 0, 0}} {
		refuse(t, api.ErrForm, count, out)
		refuse(t, api.ErrForm, count)
	}
}

// P9.3: which error is told first: piece by piece, a Value that isn't MONEY
// ahead of the Lock.
func TestParseOrder(t *testing.T) {
	eight := func(n int64) []byte { return binary.LittleEndian.AppendUint64(nil, uint64(n)) }
	tooLong := []byte{253, 0xD1, 0x07}
	spread := []byte{253, 3, 0, 1, 2, 3}

	refuse(t, api.ErrShort)
	refuse(t, api.ErrShort, []byte{253})
	refuse(t, api.ErrShort, []byte{253, 0})
	refuse(t, api.ErrForm, []byte{253, 0, 0})
	refuse(t, api.ErrForm, []byte{254, 2, 148, 53, 119})
	refuse(t, api.ErrForm, []byte{254, 2, 148, 53, 119}, eight(5))
	for _, n := range amounts {
		if coin.Money(n) {
			refuse(t, api.ErrShort, []byte{4}, eight(n))
			refuse(t, api.ErrShort, []byte{4}, eight(n), []byte{253, 1})
			refuse(t, api.ErrShort, []byte{4}, eight(n), []byte{2, 1})
			refuse(t, api.ErrForm, []byte{4}, eight(n), spread)
			refuse(t, api.ErrForm, []byte{4}, eight(n), tooLong)
			refuse(t, api.ErrForm, []byte{4}, eight(n), tooLong, sample(2001))
			refuse(t, api.ErrForm, []byte{4}, eight(n), []byte{0, 0})
			continue
		}
		refuse(t, api.ErrShort, []byte{4}, eight(n)[:7])
		refuse(t, api.ErrForm, []byte{4}, eight(n))
		refuse(t, api.ErrForm, []byte{4}, eight(n), []byte{253, 1})
		refuse(t, api.ErrForm, []byte{4}, eight(n), []byte{2, 1})
		refuse(t, api.ErrForm, []byte{4}, eight(n), []byte{2, 1, 2})
		refuse(t, api.ErrForm, []byte{4}, eight(n), spread)
		refuse(t, api.ErrForm, []byte{4}, eight(n), tooLong)
		refuse(t, api.ErrForm, []byte{4}, eight(n), []byte{0, 0})
		refuse(t, api.ErrShort, []byte{253}, eight(n)[:1])
	}
}

// P9.3: each byte of a coin's, changed to each other one, taken out, or doubled.
func TestParseChanged(t *testing.T) {
	seen := map[api.Errno]int{}
	for _, c := range []api.Coin{
		{},
		{Out: api.Out{Value: 300, Lock: []byte{81}}, Height: 200},
		{Out: api.Out{Value: api.MaxMoney, Lock: sample(3)}, Height: 1000000000, Base: true},
		{Out: api.Out{Value: 5000000000, Lock: sample(253)}, Height: 100000, Base: true},
	} {
		b := coin.Bytes(c)
		for at := range b {
			for with := range 256 {
				changed := bytes.Clone(b)
				changed[at] = byte(with)
				seen[holdParse(t, changed)]++
			}
			seen[holdParse(t, slices.Concat(b[:at], b[at+1:]))]++
			seen[holdParse(t, slices.Concat(b[:at+1], b[at:]))]++
		}
	}
	if len(seen) != 3 || seen[0] < 1000 || seen[61] < 1000 || seen[62] < 1000 {
		t.Error(seen)
	}
}

// P9.3: rows of pieces, many of them nearly a coin's.
func TestParseMixed(t *testing.T) {
	r := rand.New(rand.NewSource(93))
	counts := []uint64{0, 1, 252, 253, 65535, 65536, 1999999999, 2000000000, 2000000001, 2000000002, 1 << 32}
	seen := map[api.Errno]int{}
	for range 40000 {
		value := r.Int63n(api.MaxMoney + 1)
		if r.Intn(3) == 0 {
			value = amounts[r.Intn(len(amounts))]
		}
		n := r.Intn(40)
		if r.Intn(4) == 0 {
			n = lengths[r.Intn(len(lengths))]
		}
		b := append(countReference(counts[r.Intn(len(counts))]), outReference(api.Out{Value: value, Lock: sample(n)})...)
		switch r.Intn(8) {
		case 0:
			b = b[:r.Intn(len(b))]
		case 1:
			b = append(b, byte(r.Intn(256)))
		case 2:
			b[r.Intn(len(b))] = byte(r.Intn(256))
		}
		seen[holdParse(t, b)]++
		holdOutRead(t, b)
		holdRefRead(t, b)
	}
	if len(seen) != 3 || seen[0] < 1000 || seen[61] < 1000 || seen[62] < 1000 {
		t.Error(seen)
	}
}

// P1: coins that aren't RIGHT, and great ones.
func TestCoinBeyond(t *testing.T) {
	great := make([]byte, 1<<22)
	for _, lock := range [][]byte{nil, sample(2001), great} {
		for _, value := range amounts {
			for _, height := range []int64{-1, 1000000001, 1 << 62, math.MaxInt64, math.MinInt64} {
				coin.Bytes(api.Coin{Out: api.Out{Value: value, Lock: lock}, Height: height, Base: true})
			}
		}
		if b := coin.OutBytes(api.Out{Lock: lock}); !bytes.Equal(b, outReference(api.Out{Lock: lock})) {
			t.Errorf("OutBytes of %d bytes", len(lock))
		}
	}
	holdParse(t, great)
	holdOutRead(t, great)
	holdRefRead(t, great)
}

// The rules: what is handed in isn't changed, nor shared, spare room included.
func TestBytesUnchanged(t *testing.T) {
	for _, n := range []int{0, 1, 5, 253, 2000} {
		lock := roomy(sample(n))
		before := bytes.Clone(lock[:cap(lock)])
		c := api.Coin{Out: api.Out{Value: 5, Lock: lock}, Height: 6}
		filled(coin.OutBytes(c.Out), 0xAA)
		filled(coin.Bytes(c), 0xBB)
		if !bytes.Equal(lock[:cap(lock)], before) {
			t.Errorf("%d: a Lock was changed, or is shared", n)
		}

		b := roomy(coin.Bytes(c))
		before = bytes.Clone(b[:cap(b)])
		got, e := coin.Parse(b)
		if e != api.OK {
			t.Fatal(e)
		}
		filled(got.Out.Lock, 0xCC)
		if !bytes.Equal(b[:cap(b)], before) {
			t.Errorf("%d: Parse has changed it, or shares it", n)
		}
	}
	ref := api.Ref{Id: api.Hash{1, 2, 3}, At: 4}
	filled(coin.RefBytes(ref), 0xDD)
	if ref != (api.Ref{Id: api.Hash{1, 2, 3}, At: 4}) {
		t.Error(ref)
	}
}

// The rules: nothing is kept: answers, and what was handed in, may be written
// over, and all is answered anew.
func TestBytesNotKept(t *testing.T) {
	ref := api.Ref{Id: api.Hash{1, 2, 3}, At: 4}
	c := api.Coin{Out: api.Out{Value: 5, Lock: sample(9)}, Height: 6, Base: true}
	for range 3 {
		b := coin.Bytes(c)
		got, e := coin.Parse(b)
		filled(b, 0xAA)
		if !sameCoin(got, c) || e != api.OK {
			t.Errorf("%+v, error %d", got, e)
		}
		filled(got.Out.Lock, 0xAA)

		first, second := coin.OutBytes(c.Out), coin.OutBytes(c.Out)
		r := piece.New(slices.Concat(first, second))
		filled(first, 0xBB)
		if !bytes.Equal(second, outReference(c.Out)) {
			t.Errorf("%x", second)
		}
		one, other := coin.OutRead(r), coin.OutRead(r)
		filled(one.Lock, 0xBB)
		if !sameOut(other, c.Out) || r.Left() != 0 {
			t.Errorf("%+v", other)
		}

		beginning, again := coin.RefBytes(ref), coin.RefBytes(ref)
		filled(beginning, 0xCC)
		if !bytes.Equal(again, refReference(ref)) {
			t.Errorf("%x", again)
		}
	}
}

func FuzzParse(f *testing.F) {
	f.Add([]byte{})
	f.Add(coin.Bytes(api.Coin{Out: api.Out{Value: 300, Lock: []byte{81}}, Height: 200}))
	f.Add(coin.Bytes(api.Coin{Out: api.Out{Value: api.MaxMoney, Lock: sample(2000)}, Height: 1000000000, Base: true}))
	f.Add(coin.OutBytes(api.Out{Value: -1, Lock: sample(2001)}))
	f.Add(coin.RefBytes(api.Ref{Id: api.Hash(sample(32)), At: 1}))
	f.Fuzz(func(t *testing.T, b []byte) {
		holdParse(t, b)
		holdOutRead(t, b)
		holdRefRead(t, b)
	})
}

func FuzzCoin(f *testing.F) {
	f.Add(int64(300), int64(200), false, []byte{81})
	f.Add(int64(api.MaxMoney), int64(1000000000), true, sample(2000))
	f.Add(int64(-1), int64(-1), true, sample(2001))
	f.Fuzz(func(t *testing.T, value, height int64, base bool, lock []byte) {
		c := api.Coin{Out: api.Out{Value: value, Lock: lock}, Height: height, Base: base}
		if got := coin.Subsidy(height); got != subsidyReference(height) {
			t.Fatalf("Subsidy of %d: %d", height, got)
		}
		if b := coin.OutBytes(c.Out); !bytes.Equal(b, outReference(c.Out)) {
			t.Fatalf("OutBytes of %+v: %x", c.Out, b)
		}
		b := coin.Bytes(c)
		if !coin.Money(value) || len(lock) > 2000 || height < 0 || height > 1000000000 {
			return
		}
		if got, e := coin.Parse(b); !bytes.Equal(b, coinReference(c)) || !sameCoin(got, c) || e != api.OK {
			t.Fatalf("%+v: %x, %+v, error %d", c, b, got, e)
		}
	})
}
