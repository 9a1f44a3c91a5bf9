package piece_test

import (
	"bytes"
	"encoding/binary"
	"math"
	"math/rand"
	"testing"

	"byname/api"
	"byname/piece"
)

// model is a Reader by the chapter's words: the bytes, how far they were read,
// and why it is BAD.
type model struct {
	all   []byte
	at    int
	fault api.Errno
}

func (m *model) left() []byte { return m.all[m.at:] }

func (m *model) bad(e api.Errno) { m.fault = e }

func (m *model) fixed(size int) uint64 {
	size = min(max(size, 0), 8)
	if m.fault != 0 {
		return 0
	}
	if len(m.left()) < size {
		m.bad(61)
		return 0
	}
	var b [8]byte
	copy(b[:], m.left()[:size])
	m.at += size
	return binary.LittleEndian.Uint64(b[:])
}

// next is the number of the Count that stands next, and its bytes.
func (m *model) next(most uint64) (uint64, int, api.Errno) {
	l := m.left()
	if len(l) == 0 {
		return 0, 0, 61
	}
	size := map[byte]int{253: 3, 254: 5, 255: 9}[l[0]]
	n, least := uint64(l[0]), uint64(0)
	switch {
	case len(l) < size:
		return 0, 0, 61
	case size == 0:
		size = 1
	case size == 3:
		n, least = uint64(binary.LittleEndian.Uint16(l[1:])), 253
	case size == 5:
		n, least = uint64(binary.LittleEndian.Uint32(l[1:])), 65536
	default:
		n, least = binary.LittleEndian.Uint64(l[1:]), 4294967296
	}
	if n < least || n > most {
		return 0, 0, 62
	}
	return n, size, 0
}

func (m *model) count(most uint64) uint64 {
	if m.fault != 0 {
		return 0
	}
	n, size, e := m.next(most)
	m.at += size
	m.bad(e)
	return n
}

func (m *model) raw(n int) []byte {
	if m.fault != 0 || n < 1 {
		return nil
	}
	if n > len(m.left()) {
		m.bad(61)
		return nil
	}
	m.at += n
	return m.all[m.at-n : m.at]
}

func (m *model) text(most int) []byte {
	if m.fault != 0 {
		return nil
	}
	n, size, e := m.next(uint64(max(most, 0)))
	if e == 0 && n > uint64(len(m.left())-size) {
		e = 61
	}
	if e != 0 {
		m.bad(e)
		return nil
	}
	m.at += size + int(n)
	return m.all[m.at-int(n) : m.at]
}

// both is a Reader beside a model of it.
type both struct {
	t *testing.T
	r *piece.Reader
	m *model
}

func newBoth(t *testing.T, b []byte) both {
	return both{t, piece.New(b), &model{all: bytes.Clone(b)}}
}

// step does one of the four to both, and holds them against each other; of a
// Count by is taken as a number without sign.
func (w both) step(kind, by int) {
	w.t.Helper()
	var number, want uint64
	var list, wanted []byte
	switch kind {
	case 0:
		number, want = w.r.Fixed(by), w.m.fixed(by)
	case 1:
		number, want = w.r.Count(uint64(by)), w.m.count(uint64(by))
	case 2:
		list, wanted = w.r.Raw(by), w.m.raw(by)
	default:
		list, wanted = w.r.Text(by), w.m.text(by)
	}
	if number != want || !bytes.Equal(list, wanted) || w.r.Left() != len(w.m.left()) || w.r.Err() != w.m.fault {
		w.t.Fatalf("%v at %d: call %d of %d: %d %v, left %d, error %d, want %d %v, %d, %d",
			w.m.all, w.m.at, kind, by, number, list, w.r.Left(), w.r.Err(), want, wanted, len(w.m.left()), w.m.fault)
	}
}

// stays asks a BAD one everything: with nothing read, nothing answered.
func stays(t *testing.T, r *piece.Reader, left int, fault api.Errno) {
	t.Helper()
	for range 2 {
		for _, n := range []int{math.MinInt, -1, 0, 1, 2, 8, 100, math.MaxInt} {
			if r.Fixed(n) != 0 || r.Count(uint64(n)) != 0 || len(r.Raw(n)) != 0 || len(r.Text(n)) != 0 {
				t.Errorf("a BAD one answers at %d", n)
			}
			if r.Left() != left || r.Err() != fault {
				t.Errorf("a BAD one: left %d, error %d, want %d, %d", r.Left(), r.Err(), left, fault)
			}
		}
	}
}

// P6.2: at the beginning all is left.
func TestNew(t *testing.T) {
	for _, b := range beginnings {
		if r := piece.New(b); r.Left() != len(b) || r.Err() != api.OK {
			t.Errorf("New of %d bytes: left %d, error %d", len(b), r.Left(), r.Err())
		}
	}
	r := piece.New([]byte{9, 8})
	if r.Fixed(0) != 0 || r.Raw(0) != nil || r.Raw(-1) != nil || r.Left() != 2 || r.Err() != api.OK {
		t.Errorf("nothing read: left %d, error %d", r.Left(), r.Err())
	}
	if r.Fixed(1) != 9 || r.Left() != 1 || r.Fixed(1) != 8 || r.Left() != 0 || r.Err() != api.OK {
		t.Errorf("all read: left %d, error %d", r.Left(), r.Err())
	}
	if r.Fixed(0) != 0 || r.Raw(0) != nil || r.Raw(math.MinInt) != nil || r.Err() != api.OK {
		t.Errorf("nothing read at the end: error %d", r.Err())
	}
}

// P6.2: once BAD, it stays so, with what was left and why, even where more
// could be read.
func TestBadStays(t *testing.T) {
	b := []byte{1, 7, 5, 'a', 'b', 253, 1, 0}
	for _, c := range []struct {
		name  string
		spoil func(r *piece.Reader)
		left  int
		fault api.Errno
	}{
		{"Fixed", func(r *piece.Reader) { r.Raw(2); r.Fixed(8) }, 6, api.ErrShort},
		{"Raw", func(r *piece.Reader) { r.Raw(9) }, 8, api.ErrShort},
		{"Raw of the most", func(r *piece.Reader) { r.Raw(1); r.Raw(math.MaxInt) }, 7, api.ErrShort},
		{"Count that ends", func(r *piece.Reader) { r.Raw(8); r.Count(1) }, 0, api.ErrShort},
		{"Count above most", func(r *piece.Reader) { r.Raw(1); r.Count(6) }, 7, api.ErrForm},
		{"Count in too many bytes", func(r *piece.Reader) { r.Raw(5); r.Count(math.MaxUint64) }, 3, api.ErrForm},
		{"Text above most", func(r *piece.Reader) { r.Text(0) }, 8, api.ErrForm},
		{"Text with less than nothing", func(r *piece.Reader) { r.Text(-1) }, 8, api.ErrForm},
		{"Text whose length has too many bytes", func(r *piece.Reader) { r.Text(1); r.Raw(2); r.Raw(1); r.Text(100) }, 3, api.ErrForm},
		{"Text without all of it", func(r *piece.Reader) { r.Raw(1); r.Text(7) }, 7, api.ErrShort},
	} {
		r := piece.New(b)
		c.spoil(r)
		if r.Left() != c.left || r.Err() != c.fault {
			t.Errorf("%s: left %d, error %d, want %d, %d", c.name, r.Left(), r.Err(), c.left, c.fault)
		}
		stays(t, r, c.left, c.fault)
	}
}

// P6.3: Fixed, of all sizes, those beyond too, with as many bytes as it needs,
// with one less, and with more.
func TestReaderFixed(t *testing.T) {
	if r := piece.New([]byte{1, 2, 3, 4, 5, 6, 7, 8, 9}); r.Fixed(3) != 0x030201 || r.Fixed(1) != 4 || r.Fixed(5) != 0x0908070605 || r.Left() != 0 {
		t.Errorf("left %d", r.Left())
	}
	if n := piece.New([]byte{1, 2, 3, 4, 5, 6, 7, 8}).Fixed(8); n != 0x0807060504030201 {
		t.Errorf("Fixed of 8: %x", n)
	}
	for _, n := range edges() {
		for size := -2; size <= 10; size++ {
			bytesOf := min(max(size, 0), 8)
			want := n
			if bytesOf < 8 {
				want = n % (1 << (8 * bytesOf))
			}
			b := append(piece.Fixed(nil, n, size), 0xEE, 0xEE)
			r := piece.New(b)
			if got := r.Fixed(size); got != want || r.Left() != 2 || r.Err() != api.OK {
				t.Errorf("Fixed %d of %v: %x, left %d, error %d", size, b, got, r.Left(), r.Err())
			}
			r = piece.New(b[:bytesOf])
			if got := r.Fixed(size); got != want || r.Left() != 0 || r.Err() != api.OK {
				t.Errorf("Fixed %d of all of %v: %x, left %d, error %d", size, b, got, r.Left(), r.Err())
			}
			for less := range bytesOf {
				r = piece.New(b[:less])
				if got := r.Fixed(size); got != 0 || r.Left() != less || r.Err() != api.ErrShort {
					t.Errorf("Fixed %d of %d bytes: %x, left %d, error %d", size, less, got, r.Left(), r.Err())
				}
			}
		}
	}
}

// P6.3: Fixed, of sizes far beyond.
func TestReaderFixedBeyond(t *testing.T) {
	for _, size := range []int{9, 16, 1 << 32, math.MaxInt} {
		r := piece.New([]byte{1, 0, 0, 0, 0, 0, 0, 2, 3})
		if n := r.Fixed(size); n != 2<<56+1 || r.Left() != 1 || r.Err() != api.OK {
			t.Errorf("Fixed %d: %x, left %d, error %d", size, n, r.Left(), r.Err())
		}
	}
	for _, size := range []int{0, -1, -8, math.MinInt} {
		if r := piece.New(nil); r.Fixed(size) != 0 || r.Err() != api.OK {
			t.Errorf("Fixed %d: error %d", size, r.Err())
		}
	}
}

// P6.3: Count, of edges: what is written is read, up to most and no further,
// and not with a byte less.
func TestReaderCount(t *testing.T) {
	for _, n := range edges() {
		b := piece.Count(nil, n)
		for _, most := range []uint64{n, math.MaxUint64} {
			r := piece.New(append(bytes.Clone(b), 0xEE))
			if got := r.Count(most); got != n || r.Left() != 1 || r.Err() != api.OK {
				t.Errorf("Count %d of %v: %d, left %d, error %d", most, b, got, r.Left(), r.Err())
			}
		}
		if r := piece.New(b); n > 0 && (r.Count(n-1) != 0 || r.Left() != len(b) || r.Err() != api.ErrForm) {
			t.Errorf("Count %d of %v: left %d, error %d", n-1, b, r.Left(), r.Err())
		}
		for less := range b {
			for _, most := range []uint64{0, n, math.MaxUint64} {
				if r := piece.New(b[:less]); r.Count(most) != 0 || r.Left() != less || r.Err() != api.ErrShort {
					t.Errorf("Count %d of %v: left %d, error %d", most, b[:less], r.Left(), r.Err())
				}
			}
		}
	}
}

// P6.3: Count, in more bytes than it needs; and what ends too early is told
// first, though it could be neither.
func TestReaderCountForm(t *testing.T) {
	for _, c := range []struct {
		b     string
		fault api.Errno
	}{
		{"\xfd\x00\x00", api.ErrForm},
		{"\xfd\xfc\x00", api.ErrForm},
		{"\xfd\xfd\x00", api.OK},
		{"\xfe\x00\x00\x00\x00", api.ErrForm},
		{"\xfe\xfd\x00\x00\x00", api.ErrForm},
		{"\xfe\xff\xff\x00\x00", api.ErrForm},
		{"\xfe\x00\x00\x01\x00", api.OK},
		{"\xff\x00\x00\x00\x00\x00\x00\x00\x00", api.ErrForm},
		{"\xff\x00\x00\x01\x00\x00\x00\x00\x00", api.ErrForm},
		{"\xff\xff\xff\xff\xff\x00\x00\x00\x00", api.ErrForm},
		{"\xff\x00\x00\x00\x00\x01\x00\x00\x00", api.OK},
		{"", api.ErrShort},
		{"\xfd\x00", api.ErrShort},
		{"\xfe\x00\x00\x00", api.ErrShort},
		{"\xff\x00\x00\x00\x00\x00\x00\x00", api.ErrShort},
	} {
		r := piece.New([]byte(c.b))
		n := r.Count(math.MaxUint64)
		if r.Err() != c.fault || c.fault != api.OK && (n != 0 || r.Left() != len(c.b)) {
			t.Errorf("Count of %q: %d, left %d, error %d, want %d", c.b, n, r.Left(), r.Err(), c.fault)
		}
	}
}

// P6.3: Raw, at the end and beyond.
func TestReaderRaw(t *testing.T) {
	b := sample(20)
	for n := -2; n <= 22; n++ {
		r := piece.New(b)
		got := r.Raw(n)
		switch {
		case n < 1:
			if len(got) != 0 || r.Left() != 20 || r.Err() != api.OK {
				t.Errorf("Raw %d: %v, left %d, error %d", n, got, r.Left(), r.Err())
			}
		case n <= 20:
			if !bytes.Equal(got, b[:n]) || r.Left() != 20-n || r.Err() != api.OK || !bytes.Equal(r.Raw(20-n), b[n:]) {
				t.Errorf("Raw %d: %v, left %d, error %d", n, got, r.Left(), r.Err())
			}
		default:
			if len(got) != 0 || r.Left() != 20 || r.Err() != api.ErrShort {
				t.Errorf("Raw %d: %v, left %d, error %d", n, got, r.Left(), r.Err())
			}
		}
	}
}

// P6.3: Text, of the lengths about which a Count changes its form: what is
// written is read, up to most and no further, and not with a byte less.
func TestReaderText(t *testing.T) {
	for _, n := range []int{0, 1, 2, 252, 253, 254, 65535, 65536} {
		one := sample(n)
		b := piece.Text(nil, one, []byte("z"))
		for _, most := range []int{n, n + 1, math.MaxInt} {
			r := piece.New(b)
			if got := r.Text(most); !bytes.Equal(got, one) || r.Left() != 2 || r.Err() != api.OK || string(r.Text(1)) != "z" || r.Left() != 0 {
				t.Errorf("Text %d of %d bytes: %.20v, left %d, error %d", most, n, got, r.Left(), r.Err())
			}
		}
		if r := piece.New(b); n > 0 && (len(r.Text(n-1)) != 0 || r.Left() != len(b) || r.Err() != api.ErrForm) {
			t.Errorf("Text %d of %d bytes: left %d, error %d", n-1, n, r.Left(), r.Err())
		}
		for _, less := range []int{0, 1, 2, 3, 5, len(b) / 2, len(b) - 3} {
			if r := piece.New(b[:less]); less < len(b)-2 && (len(r.Text(n)) != 0 || r.Left() != less || r.Err() != api.ErrShort) {
				t.Errorf("Text of %d bytes, %d are there: left %d, error %d", n, less, r.Left(), r.Err())
			}
		}
	}
}

// P6.3: Text with a most below 0 reads a Text without bytes, and nothing else.
func TestReaderTextBelow(t *testing.T) {
	for _, most := range []int{0, -1, -253, math.MinInt} {
		r := piece.New([]byte{0, 0, 1, 'a'})
		if len(r.Text(most)) != 0 || len(r.Text(most)) != 0 || r.Left() != 2 || r.Err() != api.OK {
			t.Errorf("Text %d of nothing: left %d, error %d", most, r.Left(), r.Err())
		}
		if len(r.Text(most)) != 0 || r.Left() != 2 || r.Err() != api.ErrForm {
			t.Errorf("Text %d of a byte: left %d, error %d", most, r.Left(), r.Err())
		}
		if r := piece.New(nil); len(r.Text(most)) != 0 || r.Err() != api.ErrShort {
			t.Errorf("Text %d at the end: error %d", most, r.Err())
		}
	}
}

// P6.3: Text, whose length can't be, or is greater than any list.
func TestReaderTextForm(t *testing.T) {
	for _, c := range []struct {
		b     string
		most  int
		fault api.Errno
	}{
		{"\xfd\x01\x00a", 10, api.ErrForm},
		{"\xfd\x01", 10, api.ErrShort},
		{"\x05abcd", 4, api.ErrForm},
		{"\x05abcd", 5, api.ErrShort},
		{"\xff\xff\xff\xff\xff\xff\xff\xff\x7f", math.MaxInt, api.ErrShort},
		{"\xff\x00\x00\x00\x00\x00\x00\x00\x80", math.MaxInt, api.ErrForm},
		{"\xff\xff\xff\xff\xff\xff\xff\xff\xff", math.MaxInt, api.ErrForm},
	} {
		r := piece.New([]byte(c.b))
		if got := r.Text(c.most); len(got) != 0 || r.Left() != len(c.b) || r.Err() != c.fault {
			t.Errorf("Text %d of %q: %v, left %d, error %d", c.most, c.b, got, r.Left(), r.Err())
		}
	}
}

// Rules: what is handed in isn't kept, and no two answers share memory, spare
// room too.
func TestReadIsApart(t *testing.T) {
	room := append(piece.Text(nil, []byte("abc"), []byte("de")), "fgh"...)
	was := bytes.Clone(room)
	r := piece.New(room)
	filled(room, 0x55)
	first := r.Text(9)
	if string(first) != "abc" {
		t.Errorf("kept what was handed in: %q", first)
	}
	filled(first, 0xAA)
	second := r.Text(9)
	filled(second, 0xBB)
	third := r.Raw(2)
	filled(third, 0xCC)
	if r.Left() != 1 || r.Fixed(1) != 'h' {
		t.Error("an answer shares the Reader's memory")
	}
	if string(first) != "\xaa\xaa\xaa" || string(second) != "\xbb\xbb" || string(third) != "\xcc\xcc" {
		t.Errorf("answers share memory: %q %q %q", first, second, third)
	}
	r = piece.New(was[:4])
	copied := bytes.Clone(was)
	all := r.Raw(4)
	filled(all, 0xDD)
	if !bytes.Equal(was, copied) {
		t.Error("an answer shares memory with what was handed in")
	}
}

// P2: two Readers of the same bytes don't know of each other.
func TestReadersAreApart(t *testing.T) {
	b := []byte{1, 2, 3}
	first, second := piece.New(b), piece.New(b)
	first.Raw(9)
	if second.Err() != api.OK || second.Fixed(1) != 1 || first.Left() != 3 || second.Left() != 2 {
		t.Errorf("left %d and %d", first.Left(), second.Left())
	}
}

// mixedBytes are some that begin as Counts of all forms do.
func mixedBytes(r *rand.Rand) []byte {
	b := []byte{}
	for range r.Intn(6) {
		switch r.Intn(5) {
		case 0:
			b = piece.Text(b, sample(r.Intn(5)))
		case 1:
			b = piece.Count(b, r.Uint64()>>r.Intn(64))
		case 2:
			b = piece.Fixed(b, r.Uint64(), r.Intn(9))
		case 3:
			b = append(append(b, byte(253+r.Intn(3))), make([]byte, r.Intn(9))...)
		default:
			b = append(b, byte(r.Intn(256)))
		}
	}
	return b
}

// P6.2, P6.3: rows of calls of any kind, beside the model.
func TestReaderByModel(t *testing.T) {
	r := rand.New(rand.NewSource(6))
	bounds := []int{math.MinInt, -1, 0, 1, 2, 3, 4, 5, 7, 8, 9, 252, 253, 65536, math.MaxInt}
	for range 30000 {
		w := newBoth(t, mixedBytes(r))
		for range 8 {
			w.step(r.Intn(4), bounds[r.Intn(len(bounds))])
		}
	}
}

func FuzzReader(f *testing.F) {
	f.Add([]byte{1, 2, 253, 253, 0}, []byte{0, 1, 1, 255})
	f.Add([]byte{3, 'a', 'b', 'c', 255, 0, 0, 0, 0, 1, 0, 0, 0}, []byte{3, 3, 1, 254, 2, 1})
	f.Fuzz(func(t *testing.T, b, calls []byte) {
		w := newBoth(t, b)
		for i := 0; i+1 < len(calls); i += 2 {
			by := int(int8(calls[i+1]))
			if calls[i]&4 != 0 {
				by <<= calls[i] >> 3
			}
			w.step(int(calls[i]&3), by)
		}
	})
}
