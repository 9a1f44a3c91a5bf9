package piece_test

import (
	"bytes"
	"encoding/binary"
	"math"
	"testing"

	"byname/api"
	"byname/piece"
)

// edges are the numbers about which a Count changes its form, and about which
// a number has need of one byte more.
func edges() []uint64 {
	l := []uint64{0, 1, 2, 127, 128, 251, 252, 253, 254, 255, 256, 257, 509, 0x0123456789ABCDEF, 0xFEDCBA9876543210}
	for bits := 8; bits < 64; bits += 8 {
		n := uint64(1) << bits
		l = append(l, n-2, n-1, n, n+1, n+0x55)
	}
	return append(l, 1<<63-1, 1<<63, 1<<63+1, math.MaxUint64-1, math.MaxUint64)
}

// countReference is the chapter's words, with the library's bytes.
func countReference(n uint64) []byte {
	switch {
	case n < 253:
		return []byte{byte(n)}
	case n <= 65535:
		return binary.LittleEndian.AppendUint16([]byte{253}, uint16(n))
	case n <= 4294967295:
		return binary.LittleEndian.AppendUint32([]byte{254}, uint32(n))
	}
	return binary.LittleEndian.AppendUint64([]byte{255}, n)
}

func fixedReference(n uint64, size int) []byte {
	l := binary.LittleEndian.AppendUint64(nil, n)
	switch {
	case size < 0:
		return nil
	case size > 8:
		return l
	}
	return l[:size]
}

func textReference(l ...[]byte) []byte {
	all := []byte{}
	for _, b := range l {
		all = append(append(all, countReference(uint64(len(b)))...), b...)
	}
	return all
}

func joined(l ...[]byte) []byte { return bytes.Join(l, nil) }

func sample(n int) []byte {
	b := make([]byte, n)
	x := uint32(n)*2654435761 + 1
	for i := range b {
		x = x*1664525 + 1013904223
		b[i] = byte(x >> 24)
	}
	return b
}

var beginnings = [][]byte{nil, {}, {7}, {1, 2, 3}, sample(300)}

// P6.1: written out.
func TestFixedWritten(t *testing.T) {
	for _, c := range []struct {
		b    string
		n    uint64
		size int
		want string
	}{
		{"", 0x0102030405060708, 8, "\x08\x07\x06\x05\x04\x03\x02\x01"},
		{"ab", 0x0102030405060708, 4, "ab\x08\x07\x06\x05"},
		{"ab", 0x0102030405060708, 3, "ab\x08\x07\x06"},
		{"ab", 0x0102030405060708, 1, "ab\x08"},
		{"ab", 0x0102030405060708, 0, "ab"},
		{"ab", 0x0102030405060708, -1, "ab"},
		{"ab", 0x0102030405060708, 9, "ab\x08\x07\x06\x05\x04\x03\x02\x01"},
		{"", 1, 2, "\x01\x00"},
		{"", 0, 5, "\x00\x00\x00\x00\x00"},
		{"", 256, 1, "\x00"},
		{"", math.MaxUint64, 8, "\xff\xff\xff\xff\xff\xff\xff\xff"},
	} {
		if got := piece.Fixed([]byte(c.b), c.n, c.size); string(got) != c.want {
			t.Errorf("Fixed %q %x %d: %q, want %q", c.b, c.n, c.size, got, c.want)
		}
	}
}

// P6.1: all sizes, those beyond too, of edges.
func TestFixed(t *testing.T) {
	sizes := []int{math.MinInt, math.MinInt + 1, -256, -8, 16, 64, 255, 256, 1 << 32, math.MaxInt - 1, math.MaxInt}
	for size := -2; size <= 10; size++ {
		sizes = append(sizes, size)
	}
	for _, b := range beginnings {
		for _, n := range edges() {
			for _, size := range sizes {
				want := joined(b, fixedReference(n, size))
				if got := piece.Fixed(b, n, size); !bytes.Equal(got, want) {
					t.Fatalf("Fixed %v %x %d: %v, want %v", b, n, size, got, want)
				}
			}
		}
	}
}

// P6.1, Examples: written out.
func TestCountWritten(t *testing.T) {
	for _, c := range []struct {
		b    string
		n    uint64
		want string
	}{
		{"", 0, "\x00"},
		{"", 252, "\xfc"},
		{"", 253, "\xfd\xfd\x00"},
		{"", 255, "\xfd\xff\x00"},
		{"ab", 65535, "ab\xfd\xff\xff"},
		{"", 65536, "\xfe\x00\x00\x01\x00"},
		{"ab", 4294967295, "ab\xfe\xff\xff\xff\xff"},
		{"", 4294967296, "\xff\x00\x00\x00\x00\x01\x00\x00\x00"},
		{"ab", 0x0102030405060708, "ab\xff\x08\x07\x06\x05\x04\x03\x02\x01"},
		{"", math.MaxUint64, "\xff\xff\xff\xff\xff\xff\xff\xff\xff"},
	} {
		if got := piece.Count([]byte(c.b), c.n); string(got) != c.want {
			t.Errorf("Count %q %d: %q, want %q", c.b, c.n, got, c.want)
		}
	}
}

// P6.1: all up to some hundreds, and edges.
func TestCount(t *testing.T) {
	numbers := edges()
	for n := range uint64(600) {
		numbers = append(numbers, n)
	}
	for _, b := range beginnings {
		for _, n := range numbers {
			want := joined(b, countReference(n))
			if got := piece.Count(b, n); !bytes.Equal(got, want) {
				t.Fatalf("Count %v %d: %v, want %v", b, n, got, want)
			}
		}
	}
}

// P6.1: none, one and several, with the lengths about which a Count changes
// its form.
func TestText(t *testing.T) {
	if got := piece.Text([]byte("x"), []byte("ab"), nil, []byte("c")); string(got) != "x\x02ab\x00\x01c" {
		t.Errorf("Text of three: %q", got)
	}
	for _, b := range beginnings {
		if got := piece.Text(b); !bytes.Equal(got, b) {
			t.Errorf("Text %v of none: %v", b, got)
		}
		for _, n := range []int{0, 1, 2, 252, 253, 254, 255, 256, 65535, 65536, 65537} {
			one := sample(n)
			for _, l := range [][][]byte{{one}, {one, nil}, {{}, one}, {one, {1, 2}, one}} {
				want := joined(b, textReference(l...))
				if got := piece.Text(b, l...); !bytes.Equal(got, want) {
					t.Errorf("Text %v of %d lists, of %d bytes: %.40v, want %.40v", b, len(l), n, got, want)
				}
			}
		}
	}
}

func filled(b []byte, with byte) {
	room := b[:cap(b)]
	for i := range room {
		room[i] = with
	}
}

// calls are those that write behind b: with one byte at least, and with none.
var calls = []struct {
	name string
	call func(b []byte) []byte
}{
	{"Fixed of 8", func(b []byte) []byte { return piece.Fixed(b, 0x0102030405060708, 8) }},
	{"Fixed of 1", func(b []byte) []byte { return piece.Fixed(b, 5, 1) }},
	{"Fixed of 0", func(b []byte) []byte { return piece.Fixed(b, 5, 0) }},
	{"Fixed below 0", func(b []byte) []byte { return piece.Fixed(b, 5, -3) }},
	{"Count of 1", func(b []byte) []byte { return piece.Count(b, 5) }},
	{"Count of 9", func(b []byte) []byte { return piece.Count(b, 1<<40) }},
	{"Text of none", func(b []byte) []byte { return piece.Text(b) }},
	{"Text of nothing", func(b []byte) []byte { return piece.Text(b, nil) }},
	{"Text of some", func(b []byte) []byte { return piece.Text(b, []byte("abc"), []byte("d")) }},
	{"Text of itself", func(b []byte) []byte { return piece.Text(b, b, b) }},
}

// Rules: what is handed in isn't changed, spare room included, and what is
// answered is new memory, spare room too.
func TestWrittenIsApart(t *testing.T) {
	for _, c := range calls {
		for _, n := range []int{0, 1, 3, 100} {
			room := sample(n + 40)
			was := bytes.Clone(room)
			got := c.call(room[:n])
			want := bytes.Clone(got)
			if !bytes.Equal(room, was) {
				t.Errorf("%s, %d bytes: changed what was handed in", c.name, n)
			}
			filled(got, 0xAA)
			if !bytes.Equal(room, was) {
				t.Errorf("%s, %d bytes: the answer shares memory", c.name, n)
			}
			if again := c.call(room[:n]); !bytes.Equal(again, want) {
				t.Errorf("%s, %d bytes: %v, then %v", c.name, n, want, again)
			}
			again := c.call(room[:n])
			filled(room, 0x55)
			if !bytes.Equal(again, want) {
				t.Errorf("%s, %d bytes: the answer hangs on what was handed in", c.name, n)
			}
		}
	}
}

// Rules: Text's lists aren't changed, nor shared, nor their spare room.
func TestTextsAreApart(t *testing.T) {
	first, second := sample(30), sample(20)
	was, too := bytes.Clone(first), bytes.Clone(second)
	l := [][]byte{first[:10], second[:5], first[2:7]}
	got := piece.Text(nil, l...)
	want := textReference(was[:10], too[:5], was[2:7])
	if !bytes.Equal(got, want) {
		t.Errorf("Text: %v, want %v", got, want)
	}
	filled(got, 0xAA)
	if !bytes.Equal(first, was) || !bytes.Equal(second, too) || len(l) != 3 || &l[0][0] != &first[0] || &l[1][0] != &second[0] {
		t.Error("changed what was handed in")
	}
}

// Errors: their numbers.
func TestErrors(t *testing.T) {
	if api.ErrShort != 61 || api.ErrForm != 62 {
		t.Errorf("%d %d", api.ErrShort, api.ErrForm)
	}
}

func FuzzWritten(f *testing.F) {
	f.Add([]byte{1}, uint64(253), 3, []byte("a"), []byte{})
	f.Add([]byte{}, uint64(1)<<32, -1, make([]byte, 253), []byte{0})
	f.Fuzz(func(t *testing.T, b []byte, n uint64, size int, first, second []byte) {
		if got, want := piece.Fixed(b, n, size), joined(b, fixedReference(n, size)); !bytes.Equal(got, want) {
			t.Fatalf("Fixed %v %x %d: %v, want %v", b, n, size, got, want)
		}
		if got, want := piece.Count(b, n), joined(b, countReference(n)); !bytes.Equal(got, want) {
			t.Fatalf("Count %v %d: %v, want %v", b, n, got, want)
		}
		if got, want := piece.Text(b, first, second), joined(b, textReference(first, second)); !bytes.Equal(got, want) {
			t.Fatalf("Text %v %v %v: %v, want %v", b, first, second, got, want)
		}
	})
}
