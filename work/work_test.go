package work_test

import (
	"encoding/hex"
	"math"
	"math/rand"
	"slices"
	"testing"

	"byname/api"
	"byname/work"
)

// P12.3, Examples: written out.
func TestWorkWritten(t *testing.T) {
	top := uint64(math.MaxUint64)
	for _, c := range []struct {
		bits uint32
		work api.Wide
	}{
		{easiest, api.Wide{2}},
		{0x20555555, api.Wide{3}},
		{0x20400000, api.Wide{3}},
		{0x203FFFFF, api.Wide{4}},
		{0x2200007F, api.Wide{2}},
		{0x22000001, api.Wide{255}},
		{0x1D00FFFF, api.Wide{0x100010001}},
		// One more than the number is 2, 3, 4, 256, 2 to the power of 23.
		{0x01010000, api.Wide{0, 0, 0, 1 << 63}},
		{0x01020000, api.Wide{0x5555555555555555, 0x5555555555555555, 0x5555555555555555, 0x5555555555555555}},
		{0x01030000, api.Wide{0, 0, 0, 1 << 62}},
		{0x01040000, api.Wide{top / 5, top / 5, top / 5, top / 5}},
		{0x0200FF00, api.Wide{0, 0, 0, 1 << 56}},
		{0x037FFFFF, api.Wide{0, 0, 0, 1 << 41}},
		// BITS with an error.
		{0, api.Wide{}},
		{0x0100FFFF, api.Wide{}},
		{0x1D80FFFF, api.Wide{}},
		{0x21008000, api.Wide{}},
		{0x23000001, api.Wide{}},
		{0xFFFFFFFF, api.Wide{}},
	} {
		if got := work.Work(c.bits); got != c.work {
			t.Errorf("%08x: %x, want %x", c.bits, got, c.work)
		}
		holdBits(t, c.bits)
	}
}

func backward(t *testing.T, s string) api.Hash {
	t.Helper()
	b, err := hex.DecodeString(s)
	if err != nil {
		t.Fatal(err)
	}
	slices.Reverse(b)
	return api.Hash(b)
}

// published is a head that is known elsewhere, whose name begins with 43 bits
// of nought.
func published(t *testing.T) api.Head {
	root := backward(t, "4a5e1e4baab89f3a32518a88c31bc87f618f76673e2cc77ab2127b7afdeda33b")
	return api.Head{Version: 1, Root: root, Time: 1231006505, Bits: 0x1D00FFFF, Nonce: 2083236893}
}

// P12.3: a head that meets a TARGET that is hard to meet, and heads beside it.
func TestMeetsPublished(t *testing.T) {
	h := published(t)
	if !holdMeets(t, h) {
		t.Errorf("%x", idReference(h))
	}
	for _, change := range []func(h *api.Head){
		func(h *api.Head) { h.Version++ },
		func(h *api.Head) { h.Prev[31]++ },
		func(h *api.Head) { h.Root[0]++ },
		func(h *api.Head) { h.Time++ },
		func(h *api.Head) { h.Bits-- },
		func(h *api.Head) { h.Nonce++ },
	} {
		o := h
		change(&o)
		if holdMeets(t, o) {
			t.Errorf("%+v", o)
		}
	}
}

// P12.3: the Id is at most the TARGET, the last byte highest. If all but the
// TARGET's highest byte is nought, it is met by Ids whose one is less.
func TestMeetsEdges(t *testing.T) {
	below, above := 0, 0
	for nonce := range uint32(20000) {
		for _, m := range []uint32{1, 0x3F, 0x40, 0x7F} {
			h := api.Head{Version: 1, Bits: 0x22000000 | m, Nonce: nonce}
			id := idReference(h)
			met := holdMeets(t, h)
			if met != (uint32(id[0]) < m) {
				t.Fatalf("%+v, whose Id is %x: %t", h, id, met)
			}
			switch uint32(id[0]) {
			case m:
				above++
			case m - 1:
				below++
			}
		}
	}
	if below < 100 || above < 100 {
		t.Error(below, above)
	}
}

// P12.3: TARGETs of all sizes.
func TestMeetsMixed(t *testing.T) {
	r := rand.New(rand.NewSource(123))
	met := 0
	for range 100000 {
		h := api.Head{Version: r.Uint32(), Time: r.Uint32(), Nonce: r.Uint32()}
		r.Read(h.Prev[:])
		r.Read(h.Root[:])
		h.Bits = uint32(0x1E+r.Intn(6))<<24 | r.Uint32()>>(8+r.Intn(24))
		if holdMeets(t, h) {
			met++
		}
	}
	if met < 1000 || met > 99000 {
		t.Error(met)
	}
}

// P12.3: no name is small enough for BITS with an error.
func TestMeetsWrong(t *testing.T) {
	for _, bits := range []uint32{0, 0x0100FFFF, 0x20000000, 0x20800000, 0x20FFFFFF, 0x21008000, 0x2100FFFF, 0x21010000, 0x22000080, 0x220000FF, 0x22000100, 0x23000001, 0x237FFFFF, 0xFF000001, 0xFFFFFFFF} {
		for nonce := range uint32(300) {
			if work.Meets(api.Head{Bits: bits, Nonce: nonce}) {
				t.Errorf("%08x, %d", bits, nonce)
			}
		}
	}
}

// P12.4: written out.
func TestNextWritten(t *testing.T) {
	const now = 1000000000
	for _, c := range []struct{ bits, first, last, next uint32 }{
		// As long as it should: the same.
		{0x1D00FFFF, now, now + 4200, 0x1D00FFFF},
		{easiest, now, now + 4200, easiest},
		{0x03123456, now, now + 4200, 0x03123456},
		// BITS that are written in another way than Compact's.
		{0x04001234, now, now + 4200, 0x03123400},
		{0x2200007F, now, now + 4200, 0x207F0000},
		{0x0101FFFF, now, now + 4200, 0x01010000},
		// Longer, shorter, and how the TARGET is rounded.
		{0x1D00FFFF, now, now + 8400, 0x1D01FFFE},
		{0x1D00FFFF, now, now + 2100, 0x1C7FFF80},
		{0x037FFFFF, now, now + 8400, 0x0400FFFF},
		{0x037FFFFF, now, now + 2100, 0x033FFFFF},
		{0x037FFFFF, now, now + 4201, 0x04008007},
		{0x01050000, now, now + 4199, 0x01040000},
		{0x01050000, now, now + 5039, 0x01050000},
		{0x01050000, now, now + 5040, 0x01060000},
		// At least 1050.
		{0x20400000, now, now + 1051, 0x201003E6},
		{0x20400000, now, now + 1050, 0x20100000},
		{0x20400000, now, now + 1049, 0x20100000},
		{0x20400000, now, now + 1, 0x20100000},
		{0x20400000, now, now, 0x20100000},
		{0x20400000, now, now - 1, 0x20100000},
		{0x20400000, now, now - 4200, 0x20100000},
		{0x20400000, math.MaxUint32, 0, 0x20100000},
		{0x20400000, 1, 0, 0x20100000},
		{0x20400000, 1 << 31, 0, 0x20100000},
		{0x20400000, math.MaxUint32, 1<<31 - 1, 0x20100000},
		// At most 16800.
		{0x1D00FFFF, now, now + 16799, 0x1D03FFEC},
		{0x1D00FFFF, now, now + 16800, 0x1D03FFFC},
		{0x1D00FFFF, now, now + 16801, 0x1D03FFFC},
		{0x1D00FFFF, now, now + 1000000, 0x1D03FFFC},
		{0x1D00FFFF, 0, 1 << 31, 0x1D03FFFC},
		{0x1D00FFFF, 0, math.MaxUint32, 0x1D03FFFC},
		{0x1D00FFFF, 1<<31 - 1, math.MaxUint32, 0x1D03FFFC},
		// At most the easiest one, also where 256 bits don't hold it.
		{0x20400000, now, now + 8399, 0x207FFC19},
		{0x20400000, now, now + 8400, easiest},
		{0x20400000, now, now + 16800, easiest},
		{easiest, now, now + 4201, easiest},
		{easiest, now, now + 8400, easiest},
		{easiest, now, now + 8401, easiest},
		{easiest, now, now + 16800, easiest},
		{0x2200007F, now, now + 16800, easiest},
		{0x2200007F, now, now + 4300, easiest},
		// So hard that nothing is left.
		{0x01010000, now, now + 4199, 0},
		{0x01010000, now, now, 0},
		{0x01030000, now, now + 1050, 0},
		{0x01030000, now, now + 1400, 0x01010000},
		{0x01040000, now, now, 0x01010000},
		// BITS with an error.
		{0, now, now + 4200, easiest},
		{0, now, now, easiest},
		{0x0100FFFF, now, now, easiest},
		{0x1D80FFFF, now, now + 2100, easiest},
		{0x21008000, now, now, easiest},
		{0x23000001, now, now, easiest},
		{0xFFFFFFFF, now, now, easiest},
	} {
		if got := work.Next(c.bits, c.first, c.last); got != c.next {
			t.Errorf("%08x, %d, %d: %08x, want %08x", c.bits, c.first, c.last, got, c.next)
		}
		holdNext(t, c.bits, c.first, c.last)
	}
}

// P12.4: each E, with the edges of M, and of how long it took.
func TestNextEdges(t *testing.T) {
	long := []uint32{0, 1049, 1050, 1051, 2100, 4199, 4200, 4201, 8400, 16799, 16800, 16801}
	for _, bits := range manyBits() {
		for _, d := range long {
			holdNext(t, bits, 77, 77+d)
		}
		holdNext(t, bits, 77, 76)
	}
}

// P12.4: each number of seconds.
func TestNextSeconds(t *testing.T) {
	for _, bits := range []uint32{0x037FFFFF, 0x1D00FFFF, 0x203FFFFF, 0x01070000} {
		for d := range uint32(17000) {
			holdNext(t, bits, 1<<31-500, 1<<31-600+d)
		}
	}
}

// P12.4: mixed ones; and row by row, as a chain goes.
func TestNextMixed(t *testing.T) {
	r := rand.New(rand.NewSource(124))
	for range 50000 {
		holdNext(t, r.Uint32(), r.Uint32(), r.Uint32())
		first := r.Uint32()
		holdNext(t, uint32(r.Intn(0x24))<<24|r.Uint32()>>(8+r.Intn(24)), first, first+uint32(r.Intn(20000))-1000)
	}
	for range 200 {
		bits := uint32(easiest)
		for range 100 {
			bits = holdNext(t, bits, 1000, 1000+uint32(r.Intn(9000)))
		}
	}
}

// P12.5: written out.
func TestMedianWritten(t *testing.T) {
	for _, c := range []struct {
		l []uint32
		n uint32
	}{
		{nil, 0},
		{[]uint32{}, 0},
		{[]uint32{3, 2, 1}[:0], 0},
		{[]uint32{7}, 7},
		{[]uint32{0}, 0},
		{[]uint32{4, 8}, 8},
		{[]uint32{8, 4}, 8},
		{[]uint32{1, 5, 9}, 5},
		{[]uint32{5, 9, 1}, 5},
		{[]uint32{9, 1, 5}, 5},
		{[]uint32{9, 5, 1}, 5},
		{[]uint32{1, 2, 3, 4}, 3},
		{[]uint32{4, 3, 2, 1}, 3},
		{[]uint32{2, 2, 9}, 2},
		{[]uint32{2, 9, 9}, 9},
		{[]uint32{6, 6, 6, 6}, 6},
		// As numbers from 0 on, not as texts, and not with a sign.
		{[]uint32{9, 10, 100}, 10},
		{[]uint32{math.MaxUint32, 0, 1}, 1},
		{[]uint32{1 << 31, 1<<31 - 1, 0}, 1<<31 - 1},
		{[]uint32{1 << 31, 1<<31 - 1, math.MaxUint32}, 1 << 31},
		{[]uint32{math.MaxUint32, math.MaxUint32}, math.MaxUint32},
		// Eleven, of which the sixth one counts.
		{[]uint32{11, 10, 9, 8, 7, 6, 5, 4, 3, 2, 1}, 6},
		{[]uint32{1, 11, 2, 10, 3, 9, 4, 8, 5, 7, 6}, 6},
	} {
		if got := holdMedian(t, c.l); got != c.n {
			t.Errorf("%d: %d, want %d", c.l, got, c.n)
		}
	}
}

// P12.5: mixed ones, of few numbers and of many.
func TestMedianMixed(t *testing.T) {
	r := rand.New(rand.NewSource(125))
	for range 20000 {
		var l []uint32
		few := 1 + r.Intn(20)
		for range r.Intn(14) {
			if few < 10 {
				l = append(l, uint32(r.Intn(few)))
				continue
			}
			l = append(l, r.Uint32())
		}
		holdMedian(t, l)
	}
}

// P12.5: many of them.
func TestMedianMany(t *testing.T) {
	const n = 1000000
	l := make([]uint32, n)
	for i := range l {
		l[i] = uint32(n - i)
	}
	if got := work.Median(l); got != n/2+1 || l[0] != n || l[n-1] != 1 {
		t.Error(got, l[0], l[n-1])
	}
	if got := work.Median(l[:n-1]); got != n/2+1 {
		t.Error(got)
	}
}

// Rules: what is handed in is not changed, spare room included.
func TestMedianUnchanged(t *testing.T) {
	l := []uint32{9, 8, 7, 6, 5, 4, 3, 2, 1}
	for n := range len(l) {
		before := slices.Clone(l)
		work.Median(l[:n])
		if !slices.Equal(l, before) {
			t.Errorf("%d: %d", n, l)
		}
	}
}

// FuzzMedian: any times.
func FuzzMedian(f *testing.F) {
	f.Add([]byte{})
	f.Add([]byte{1, 0, 0, 0, 0, 0, 0, 200, 5, 5, 5, 5})
	f.Fuzz(func(t *testing.T, b []byte) {
		var l []uint32
		for len(b) >= 4 && len(l) < 200 {
			l = append(l, uint32(b[0])|uint32(b[1])<<8|uint32(b[2])<<16|uint32(b[3])<<24)
			b = b[4:]
		}
		holdMedian(t, l)
	})
}
