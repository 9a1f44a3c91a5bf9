package slab_test

import (
	"bytes"
	"math"
	"math/rand"
	"testing"

	"byname/api"
	"byname/slab"
)

// Errors, Limits: the numbers that the document gives.
func TestNumbers(t *testing.T) {
	if api.ErrSlab != 131 || api.ErrOff != 132 || api.OK != 0 {
		t.Error(api.ErrSlab, api.ErrOff, api.OK)
	}
	if api.SlabSize != 128 || api.MaxSlabs != 4096 || len(api.Slab{}) != 128 {
		t.Error(api.SlabSize, api.MaxSlabs, len(api.Slab{}))
	}
}

// P13.1: so many slabs of noughts, from 0 to 4096.
func TestNew(t *testing.T) {
	for _, c := range []struct{ slabs, size int }{
		{0, 0}, {1, 1}, {2, 2}, {3, 3}, {100, 100}, {128, 128}, {255, 255}, {256, 256}, {4095, 4095}, {4096, 4096},
		{-1, 0}, {-4096, 0}, {math.MinInt, 0}, {math.MinInt + 1, 0},
		{4097, 4096}, {8192, 4096}, {1 << 32, 4096}, {1<<32 + 1, 4096}, {math.MaxInt, 4096},
	} {
		d := slab.New(c.slabs)
		if got := d.Size(); got != c.size {
			t.Fatalf("New of %d: Size %d, want %d", c.slabs, got, c.size)
		}
		if d.Down() {
			t.Errorf("New of %d: Down", c.slabs)
		}
		holds(t, d, make([]api.Slab, c.size)...)
	}
}

// P13.1: the noughts are KEPT, so they are there again, and Reads are as many
// as one likes.
func TestNewKept(t *testing.T) {
	w := newBoth(t, 3)
	w.write(0, full(1))
	w.write(2, full(2))
	w.restart()
	w.hold()
	holds(t, w.d, api.Slab{}, api.Slab{}, api.Slab{})
}

// P13.1: there is no BUDGET, and a BUDGET isn't New's number.
func TestNewUnbounded(t *testing.T) {
	d := slab.New(2)
	for n := range 1000 {
		does(t, "Write", d.Write(n%2, full(byte(n))), 0)
		does(t, "Sync", d.Sync(), 0)
	}
	if d.Down() {
		t.Error("Down")
	}
}

// P13.1: Read of what there isn't; of a device without slabs, too, and of one
// that is DOWN.
func TestReadWrong(t *testing.T) {
	for _, slabs := range []int{0, 1, 5, 4096} {
		d := slab.New(slabs)
		for range 2 {
			for _, at := range []int{-1, -2, -128, math.MinInt, slabs, slabs + 1, 4096, 4097, 1 << 32, 1 << 62, math.MaxInt} {
				if s, e := d.Read(at); s != (api.Slab{}) || e != 131 {
					t.Errorf("of %d, Read of %d: %v, error %d", slabs, at, s, e)
				}
			}
			d.Budget(0)
			does(t, "Sync", d.Sync(), 132)
		}
	}
}

// P13.1: the slab as it was WRITTEN last, or KEPT; DOWN or not.
func TestRead(t *testing.T) {
	a, b, c, none := sample(1), sample(2), sample(3), api.Slab{}
	d := slab.New(3)
	does(t, "Write", d.Write(1, a), 0)
	holds(t, d, none, a, none)
	does(t, "Write", d.Write(1, b), 0)
	holds(t, d, none, b, none)
	does(t, "Write", d.Write(2, a), 0)
	holds(t, d, none, b, a)
	does(t, "Sync", d.Sync(), 0)
	holds(t, d, none, b, a)
	does(t, "Write", d.Write(1, c), 0)
	holds(t, d, none, c, a)
	d.Budget(0)
	does(t, "Write", d.Write(2, c), 132)
	if !d.Down() {
		t.Error("not Down")
	}
	holds(t, d, none, c, a)
	d.Restart(nil)
	holds(t, d, none, b, a)
}

// P13.1: a Read doesn't count as a write.
func TestReadIsFree(t *testing.T) {
	d := slab.New(1)
	d.Budget(1)
	for range 10 {
		d.Read(0)
		d.Read(1)
		d.Size()
		d.Down()
	}
	does(t, "Write", d.Write(0, full(1)), 0)
	does(t, "Write", d.Write(0, full(1)), 132)
}

// P13.2: ErrSlab is told ahead of ErrOff, and neither stops a device nor
// counts.
func TestWriteWrong(t *testing.T) {
	wrong := []int{-1, -2, math.MinInt, 3, 4, 4096, 1 << 32, math.MaxInt}
	d := slab.New(3)
	tell := func() {
		t.Helper()
		for _, at := range wrong {
			does(t, "Write beyond", d.Write(at, full(7)), 131)
		}
	}
	tell()
	d.Budget(1)
	tell()
	does(t, "Write", d.Write(2, full(1)), 0)
	tell()
	if d.Down() {
		t.Error("Down by what there isn't")
	}
	holds(t, d, api.Slab{}, api.Slab{}, full(1))
	does(t, "Write", d.Write(0, full(2)), 132)
	tell()
	if !d.Down() {
		t.Error("not Down")
	}
	none := slab.New(0)
	does(t, "Write to none", none.Write(0, full(1)), 131)
	does(t, "Sync of none", none.Sync(), 0)
	none.Budget(0)
	does(t, "Write to none", none.Write(0, full(1)), 131)
	if none.Down() {
		t.Error("Down by what there isn't")
	}
	does(t, "Sync of none", none.Sync(), 132)
	if !none.Down() {
		t.Error("not Down")
	}
}

// P13.2: so many Writes and Syncs, in any order; the next one stops it, and
// nothing is written behind that.
func TestBudget(t *testing.T) {
	for budget := range 12 {
		for mask := range 16 {
			w := newBoth(t, 2)
			w.budget(budget)
			act := func(k int) api.Errno {
				t.Helper()
				if mask>>(k%4)&1 != 0 {
					return w.sync()
				}
				return w.write(k%2, sample(k))
			}
			for k := range budget {
				does(t, "within", act(k), 0)
				if w.d.Down() {
					t.Fatalf("of %d: Down behind %d", budget, k+1)
				}
			}
			for k := range 3 {
				does(t, "beyond", act(budget+k), 132)
				if !w.d.Down() {
					t.Fatalf("of %d: not Down", budget)
				}
			}
			w.hold()
			w.restart(128, 3, 128, 77)
			w.hold()
		}
	}
}

// P13.2: none, if below 0.
func TestBudgetNone(t *testing.T) {
	for _, writes := range []int{-1, -2, -128, -1 << 40, math.MinInt, math.MinInt + 1} {
		d := slab.New(1)
		d.Budget(2)
		does(t, "Write", d.Write(0, full(1)), 0)
		d.Budget(writes)
		for k := range 300 {
			does(t, "Write", d.Write(0, full(byte(k))), 0)
			does(t, "Sync", d.Sync(), 0)
		}
		if d.Down() {
			t.Errorf("Budget of %d: Down", writes)
		}
	}
}

// P13.2: a great one; it is a number of 64 bits.
func TestBudgetGreat(t *testing.T) {
	for _, writes := range []int{256, 1 << 32, 1<<32 + 1, 1 << 62, math.MaxInt - 1, math.MaxInt} {
		d := slab.New(1)
		d.Budget(writes)
		for k := range 250 {
			does(t, "Write", d.Write(0, full(byte(k))), 0)
		}
		if d.Down() {
			t.Errorf("Budget of %d: Down", writes)
		}
	}
}

// P13.2: it is that from now on, and not added to what is left.
func TestBudgetAnew(t *testing.T) {
	d := slab.New(1)
	d.Budget(5)
	does(t, "Write", d.Write(0, full(1)), 0)
	d.Budget(2)
	does(t, "Write", d.Write(0, full(2)), 0)
	does(t, "Sync", d.Sync(), 0)
	// It is 0 by now, but nothing has asked for more.
	if d.Down() {
		t.Error("Down ahead of the write that is too much")
	}
	d.Budget(1)
	does(t, "Write", d.Write(0, full(3)), 0)
	d.Budget(0)
	if d.Down() {
		t.Error("Down by Budget")
	}
	does(t, "Write", d.Write(0, full(4)), 132)
	if s, e := d.Read(0); s != full(3) || e != 0 {
		t.Error(s, e)
	}
}

// P13.2: a Budget doesn't bring up what is DOWN.
func TestBudgetDown(t *testing.T) {
	for _, writes := range []int{-1, 0, 1, 100, math.MaxInt, math.MinInt} {
		w := newBoth(t, 1)
		w.budget(0)
		does(t, "Sync", w.sync(), 132)
		w.budget(writes)
		if !w.d.Down() {
			t.Errorf("Budget of %d: not Down", writes)
		}
		does(t, "Write", w.write(0, full(1)), 132)
		does(t, "Sync", w.sync(), 132)
		w.hold()
		w.restart(128)
		holds(t, w.d, api.Slab{})
	}
}

// P13.2: a Sync keeps all that was WRITTEN, what was written twice as it was
// last; a Sync that is refused keeps nothing.
func TestSync(t *testing.T) {
	a, b, c, e := sample(1), sample(2), sample(3), sample(4)
	d := slab.New(4)
	does(t, "Write", d.Write(3, a), 0)
	does(t, "Write", d.Write(0, b), 0)
	does(t, "Write", d.Write(3, c), 0)
	does(t, "Write", d.Write(1, e), 0)
	does(t, "Write", d.Write(1, api.Slab{}), 0)
	does(t, "Sync", d.Sync(), 0)
	d.Restart(nil)
	holds(t, d, b, api.Slab{}, api.Slab{}, c)
	does(t, "Write", d.Write(2, a), 0)
	does(t, "Write", d.Write(0, e), 0)
	d.Budget(0)
	does(t, "Sync", d.Sync(), 132)
	holds(t, d, e, api.Slab{}, a, c)
	d.Restart(nil)
	holds(t, d, b, api.Slab{}, api.Slab{}, c)
}

// P13.2: what was refused isn't WRITTEN: no Restart lays it.
func TestRefusedIsLost(t *testing.T) {
	d := slab.New(2)
	does(t, "Write", d.Write(0, full(1)), 0)
	d.Budget(0)
	does(t, "Write", d.Write(1, full(2)), 132)
	does(t, "Write", d.Write(9, full(2)), 131)
	does(t, "Write", d.Write(0, full(3)), 132)
	d.Restart([]byte{128, 128, 128, 128})
	holds(t, d, full(1), api.Slab{})
}

// P13.3: so many of a slab's bytes, from its beginning on.
func TestTorn(t *testing.T) {
	under, over := sample(1), sample(2)
	for i := range under {
		if under[i] == over[i] {
			t.Fatal("samples that are the same somewhere")
		}
	}
	for size := range 256 {
		d := slab.New(3)
		does(t, "Write", d.Write(1, under), 0)
		does(t, "Sync", d.Sync(), 0)
		does(t, "Write", d.Write(1, over), 0)
		d.Restart([]byte{byte(size)})
		holds(t, d, api.Slab{}, torn(over, under, size), api.Slab{})
	}
}

// P13.3, Examples: two Writes of one slab.
func TestRestartTwice(t *testing.T) {
	a, b, none := sample(1), sample(2), api.Slab{}
	for _, c := range []struct {
		kept []byte
		want api.Slab
	}{
		{[]byte{128, 0}, a},
		{[]byte{0, 128}, b},
		{[]byte{128, 128}, b},
		{[]byte{0, 0}, none},
		{[]byte{128}, a},
		{[]byte{0}, none},
		{nil, none},
		{[]byte{}, none},
		{[]byte{5, 3}, torn(b, torn(a, none, 5), 3)},
		{[]byte{3, 5}, torn(b, none, 5)},
		{[]byte{128, 127}, torn(b, a, 127)},
		{[]byte{127, 1}, torn(b, torn(a, none, 127), 1)},
		{[]byte{200, 0}, a},
		{[]byte{255, 129}, b},
		{[]byte{128, 0, 128}, a},
		{[]byte{0, 1, 128, 255, 255}, torn(b, none, 1)},
	} {
		d := slab.New(1)
		does(t, "Write", d.Write(0, a), 0)
		does(t, "Write", d.Write(0, b), 0)
		d.Restart(c.kept)
		holds(t, d, c.want)
	}
}

// P13.3: the k-th one of those that were WRITTEN, and not the k-th slab.
func TestRestartOrder(t *testing.T) {
	a, b, c, none := sample(1), sample(2), sample(3), api.Slab{}
	d := slab.New(3)
	does(t, "Write", d.Write(2, a), 0)
	does(t, "Write", d.Write(0, b), 0)
	does(t, "Write", d.Write(2, c), 0)
	d.Restart([]byte{9, 128, 4})
	holds(t, d, b, none, torn(c, torn(a, none, 9), 4))
}

// P13.3: counted from the last Sync on, or the last Restart.
func TestRestartFrom(t *testing.T) {
	a, b, c, none := sample(1), sample(2), sample(3), api.Slab{}
	d := slab.New(3)
	does(t, "Write", d.Write(0, a), 0)
	does(t, "Sync", d.Sync(), 0)
	does(t, "Write", d.Write(1, b), 0)
	does(t, "Write", d.Write(0, c), 0)
	d.Restart([]byte{128})
	holds(t, d, a, b, none)
	does(t, "Write", d.Write(2, c), 0)
	does(t, "Write", d.Write(1, a), 0)
	d.Restart([]byte{0, 128})
	holds(t, d, a, a, none)
	// Nothing is WRITTEN any more.
	d.Restart([]byte{128, 128, 128, 128})
	holds(t, d, a, a, none)
	does(t, "Sync", d.Sync(), 0)
	holds(t, d, a, a, none)
}

// P13.3: a Sync behind a Restart brings nothing back.
func TestRestartLoses(t *testing.T) {
	d := slab.New(2)
	does(t, "Write", d.Write(0, full(1)), 0)
	does(t, "Write", d.Write(1, full(2)), 0)
	d.Restart([]byte{0, 64})
	does(t, "Sync", d.Sync(), 0)
	d.Restart([]byte{128, 128})
	holds(t, d, api.Slab{}, torn(full(2), api.Slab{}, 64))
}

// P13.3: there is no BUDGET then, and it isn't DOWN: whether it was or not.
func TestRestartUp(t *testing.T) {
	for _, down := range []bool{false, true} {
		d := slab.New(1)
		d.Budget(0)
		if down {
			does(t, "Write", d.Write(0, full(1)), 132)
		}
		d.Restart([]byte{1})
		if d.Down() {
			t.Error("Down")
		}
		for k := range 300 {
			does(t, "Write", d.Write(0, full(byte(k))), 0)
			does(t, "Sync", d.Sync(), 0)
		}
		d.Budget(1)
		does(t, "Write", d.Write(0, full(1)), 0)
		does(t, "Write", d.Write(0, full(1)), 132)
	}
}

// P13.3: any number of those that were WRITTEN, of which kept tells some, or
// more than there are.
func TestRestartMany(t *testing.T) {
	const writes = 500
	for _, told := range []int{0, 1, 128, 255, 256, 257, 499, 500, 501, 1000} {
		w := newBoth(t, 7)
		var kept []byte
		for k := range writes {
			w.write(k*3%7, sample(k))
		}
		for k := range told {
			kept = append(kept, byte(k*37))
		}
		w.restart(kept...)
		w.hold()
	}
}

// Rules: what is handed in is not changed, spare room included, and not kept.
func TestRestartUnchanged(t *testing.T) {
	room := []byte{5, 200, 1, 128, 128, 128}
	was := bytes.Clone(room)
	for n := range len(room) {
		d := slab.New(2)
		does(t, "Write", d.Write(0, full(1)), 0)
		does(t, "Write", d.Write(1, full(2)), 0)
		does(t, "Write", d.Write(1, full(3)), 0)
		d.Restart(room[:n])
		if !bytes.Equal(room, was) {
			t.Fatalf("of %d: %v, want %v", n, room, was)
		}
		first, _ := d.Read(0)
		second, _ := d.Read(1)
		for i := range room {
			room[i] = 77
		}
		holds(t, d, first, second)
		copy(room, was)
	}
}

// Rules: a slab that was handed in, or answered, is one of its own.
func TestSlabsAreApart(t *testing.T) {
	s := full(1)
	d := slab.New(2)
	does(t, "Write", d.Write(0, s), 0)
	s[0] = 9
	holds(t, d, full(1), api.Slab{})
	got, _ := d.Read(0)
	got[0] = 8
	holds(t, d, full(1), api.Slab{})
	does(t, "Sync", d.Sync(), 0)
	got, _ = d.Read(0)
	got[1] = 7
	holds(t, d, full(1), api.Slab{})
}

// P2: one device knows nothing of another one.
func TestDevicesAreApart(t *testing.T) {
	a, b := slab.New(2), slab.New(2)
	does(t, "Write", a.Write(0, full(1)), 0)
	does(t, "Sync", a.Sync(), 0)
	a.Budget(0)
	does(t, "Write", a.Write(1, full(2)), 132)
	holds(t, b, api.Slab{}, api.Slab{})
	does(t, "Write", b.Write(1, full(3)), 0)
	if b.Down() {
		t.Error("Down by another one")
	}
	holds(t, a, full(1), api.Slab{})
}

// All: mixed rows of calls, beside the chapter's words.
func TestMixed(t *testing.T) {
	r := rand.New(rand.NewSource(13))
	for range 2000 {
		w := newBoth(t, r.Intn(8))
		for range 60 {
			switch r.Intn(12) {
			case 0:
				w.sync()
			case 1:
				w.budget(r.Intn(12) - 2)
			case 2:
				kept := make([]byte, r.Intn(12))
				r.Read(kept)
				w.restart(kept...)
			default:
				w.write(r.Intn(w.d.Size()+2)-1, sample(r.Int()))
			}
			w.hold()
		}
	}
}

// All: one of the greatest, with more writes than it has slabs.
func TestGreatest(t *testing.T) {
	r := rand.New(rand.NewSource(131))
	w := newBoth(t, 5000)
	for k := range 6000 {
		w.write(k*7%4096, sample(k))
	}
	kept := make([]byte, 5500)
	r.Read(kept)
	w.restart(kept...)
	w.hold()
	for k := range 5000 {
		w.write(k*5%4099, sample(k))
	}
	w.sync()
	w.hold()
}

// FuzzDevice: any row of calls.
func FuzzDevice(f *testing.F) {
	f.Add(byte(3), []byte{0, 0, 0, 0, 2, 0, 0, 0, 16, 2, 5, 200})
	f.Add(byte(1), []byte{8, 2, 0, 0, 4, 4, 0, 0, 8, 5, 16, 1, 1})
	f.Fuzz(func(t *testing.T, slabs byte, b []byte) {
		w := newBoth(t, int(slabs%10)-1)
		for n := 0; n < 300 && len(b) >= 2; n++ {
			kind, by := b[0], int(b[1])
			b = b[2:]
			switch kind {
			case 4:
				w.sync()
			case 8:
				w.budget(by%20 - 2)
			case 16:
				size := min(by, len(b))
				w.restart(b[:size]...)
				b = b[size:]
			default:
				w.write(by%12-1, sample(n))
			}
			w.hold()
		}
	})
}
