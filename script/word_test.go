package script_test

import (
	"bytes"
	"testing"

	"byname/api"
	"byname/script"
)

func joined(l ...[]byte) []byte { return bytes.Join(l, nil) }

func sample(n int) []byte {
	b := make([]byte, n)
	x := uint32(n)*2654435761 + 1
	for i := range b {
		x = x*1664525 + 1013904223
		b[i] = byte(x >> 24)
	}
	return b
}

func filled(b []byte, with byte) {
	room := b[:cap(b)]
	for i := range room {
		room[i] = with
	}
}

// holdNext asks for the first word of b.
func holdNext(t *testing.T, b []byte, code byte, pushed []byte, size int) {
	t.Helper()
	gotCode, gotPushed, gotSize, e := script.Next(b)
	if gotCode != code || !bytes.Equal(gotPushed, pushed) || gotSize != size || e != api.OK {
		t.Errorf("Next of %.10v (%d bytes): %d %.10v %d, error %d, want %d %.10v %d",
			b, len(b), gotCode, gotPushed, gotSize, e, code, pushed, size)
	}
}

// refuseNext asks for the first word of b, which there isn't.
func refuseNext(t *testing.T, b []byte) {
	t.Helper()
	code, pushed, size, e := script.Next(b)
	if code != 0 || len(pushed) != 0 || size != 0 || e != api.ErrCode {
		t.Errorf("Next of %.10v (%d bytes): %d %.10v %d, error %d", b, len(b), code, pushed, size, e)
	}
}

// P7.1, Types: written out.
func TestNextWritten(t *testing.T) {
	for _, c := range []struct {
		b      string
		code   byte
		pushed string
		size   int
	}{
		{"\x00", 0, "", 1},
		{"\x00abc", 0, "", 1},
		{"\x01a", 1, "a", 2},
		{"\x02abc", 2, "ab", 3},
		{"\x01\x00", 1, "\x00", 2},
		{"\x4c\x00", 76, "", 2},
		{"\x4c\x01ab", 76, "a", 3},
		{"\x4d\x00\x00", 77, "", 3},
		{"\x4d\x02\x00abc", 77, "ab", 5},
		{"\x4e\x01a", 78, "", 1},
		{"\x4f", 79, "", 1},
		{"\x50", 80, "", 1},
		{"\x51", 81, "\x01", 1},
		{"\x51\x52", 81, "\x01", 1},
		{"\x60", 96, "\x10", 1},
		{"\x61", 97, "", 1},
		{"\x76\xa9", 118, "", 1},
		{"\xff\xff", 255, "", 1},
	} {
		holdNext(t, []byte(c.b), c.code, []byte(c.pushed), c.size)
	}
}

// P7.1: each code, with bytes behind the word, without, and with too few.
func TestNextOfAllCodes(t *testing.T) {
	for code := range 256 {
		pushed := []byte{}
		switch {
		case code >= 1 && code <= 75:
			pushed = sample(code)
			for less := range pushed {
				refuseNext(t, joined([]byte{byte(code)}, pushed[:less]))
			}
			holdNext(t, joined([]byte{byte(code)}, pushed), byte(code), pushed, code+1)
			holdNext(t, joined([]byte{byte(code)}, pushed, sample(100)), byte(code), pushed, code+1)
			continue
		case code == 76 || code == 77:
			continue
		case code >= 81 && code <= 96:
			pushed = []byte{byte(code - 80)}
		}
		holdNext(t, []byte{byte(code)}, byte(code), pushed, 1)
		holdNext(t, joined([]byte{byte(code)}, sample(100)), byte(code), pushed, 1)
	}
}

// P7.1: the codes whose lengths stand behind them, also where a shorter form
// would do.
func TestNextByLength(t *testing.T) {
	for _, n := range []int{0, 1, 2, 75, 76, 77, 127, 128, 254, 255, 256, 257, 511, 512, 520, 521, 65279, 65280, 65534, 65535} {
		pushed := sample(n)
		heads := [][]byte{{77, byte(n), byte(n >> 8)}}
		if n < 256 {
			heads = append(heads, []byte{76, byte(n)})
		}
		for _, head := range heads {
			whole := joined(head, pushed)
			holdNext(t, whole, head[0], pushed, len(whole))
			holdNext(t, joined(whole, []byte{1, 2, 3}), head[0], pushed, len(whole))
			for less := range min(len(whole), 90) {
				refuseNext(t, whole[:less])
				refuseNext(t, whole[:len(whole)-1-less])
			}
		}
	}
}

// P7.1: nothing, as nil and as an empty list.
func TestNextOfNothing(t *testing.T) {
	refuseNext(t, nil)
	refuseNext(t, []byte{})
	refuseNext(t, sample(5)[:0])
}

// Rules: what Next answers is new memory, spare room too, and what is handed
// in isn't changed.
func TestNextIsApart(t *testing.T) {
	for _, b := range []string{"\x00abc", "\x03abcdef", "\x4c\x03abcdef", "\x4d\x03\x00abcdef", "\x51abc", "\x61abc", "\x60"} {
		room := append([]byte(b), sample(20)...)
		was := bytes.Clone(room)
		_, first, _, _ := script.Next(room[:len(b)])
		_, second, _, _ := script.Next(room[:len(b)])
		want := bytes.Clone(second)
		filled(first, 0xAA)
		if !bytes.Equal(room, was) || !bytes.Equal(second, want) {
			t.Errorf("Next of %q: the answer shares memory", b)
		}
		filled(room, 0x55)
		if !bytes.Equal(second, want) {
			t.Errorf("Next of %q: the answer hangs on what was handed in", b)
		}
		if _, third, _, _ := script.Next(was[:len(b)]); !bytes.Equal(third, want) {
			t.Errorf("Next of %q: %v, then %v", b, want, third)
		}
	}
}

// headReference is what the chapter says stands ahead of n bytes.
func headReference(n int) []byte {
	switch {
	case n == 0:
		return []byte{0}
	case n < 76:
		return []byte{byte(n)}
	case n < 256:
		return []byte{76, byte(n)}
	}
	return []byte{77, byte(n % 256), byte(n / 256)}
}

// P7.1: written out: also one byte from 1 to 16 is pushed by code 1.
func TestPushWritten(t *testing.T) {
	for _, c := range []struct {
		b    string
		l    []string
		want string
	}{
		{"", nil, ""},
		{"ab", nil, "ab"},
		{"", []string{""}, "\x00"},
		{"ab", []string{""}, "ab\x00"},
		{"", []string{"x"}, "\x01x"},
		{"", []string{"\x00"}, "\x01\x00"},
		{"", []string{"\x01"}, "\x01\x01"},
		{"", []string{"\x10"}, "\x01\x10"},
		{"", []string{"\x51"}, "\x01\x51"},
		{"ab", []string{"cd", "", "e"}, "ab\x02cd\x00\x01e"},
		{"\x02", []string{"\x02\x02"}, "\x02\x02\x02\x02"},
	} {
		var l [][]byte
		for _, piece := range c.l {
			l = append(l, []byte(piece))
		}
		if got := script.Push([]byte(c.b), l...); string(got) != c.want {
			t.Errorf("Push %q %q: %q, want %q", c.b, c.l, got, c.want)
		}
	}
	if got := script.Push(nil, nil, nil); string(got) != "\x00\x00" {
		t.Errorf("Push of two without bytes: %q", got)
	}
}

// P7.1: the lengths about which the form changes; Next reads them back.
func TestPush(t *testing.T) {
	for _, b := range [][]byte{nil, {}, {7}, sample(300)} {
		for _, n := range []int{0, 1, 2, 16, 74, 75, 76, 77, 78, 254, 255, 256, 257, 519, 520, 521, 65535} {
			piece := sample(n)
			head := headReference(n)
			want := joined(b, head, piece)
			got := script.Push(b, piece)
			if !bytes.Equal(got, want) {
				t.Errorf("Push of %d bytes behind %d: %.10v, want %.10v", n, len(b), got, want)
			}
			holdNext(t, got[len(b):], head[0], piece, len(want)-len(b))
			want = joined(want, []byte{1, 9}, head, piece)
			if got := script.Push(b, piece, []byte{9}, piece); !bytes.Equal(got, want) {
				t.Errorf("Push of three, of %d bytes, behind %d: %.10v, want %.10v", n, len(b), got, want)
			}
		}
	}
}

// P1: more than a word can push; what comes of it is one word nevertheless.
func TestPushOfTooMuch(t *testing.T) {
	for _, n := range []int{65536, 65537, 131072, 131073 + 75, 1 << 20} {
		piece := sample(n)
		got := script.Push([]byte{5}, piece, []byte{9})
		want := joined([]byte{5, 77, 255, 255}, piece[:65535], []byte{1, 9})
		if !bytes.Equal(got, want) {
			t.Errorf("Push of %d bytes: %.10v, %d bytes", n, got, len(got))
		}
	}
}

// Rules: what is handed in isn't changed, spare room included, and what is
// answered is new memory, spare room too.
func TestPushIsApart(t *testing.T) {
	for _, n := range []int{0, 1, 3, 100} {
		for _, count := range []int{0, 1, 2} {
			room, text := sample(n+200), sample(60)
			was, textWas := bytes.Clone(room), bytes.Clone(text)
			l := [][]byte{text[:20], room[:n]}[:count]
			got, again := script.Push(room[:n], l...), script.Push(room[:n], l...)
			want := bytes.Clone(got)
			filled(got, 0xAA)
			if !bytes.Equal(room, was) || !bytes.Equal(text, textWas) || !bytes.Equal(again, want) {
				t.Errorf("Push of %d behind %d bytes: changed or shared", count, n)
			}
			filled(room, 0x55)
			filled(text, 0x55)
			if !bytes.Equal(again, want) {
				t.Errorf("Push of %d behind %d bytes: the answer hangs on what was handed in", count, n)
			}
		}
	}
}

// P7.1: one byte that isn't 0, wherever it stands, whatever it is.
func TestTrue(t *testing.T) {
	if script.True(nil) || script.True([]byte{}) {
		t.Error("no bytes are True")
	}
	for _, n := range []int{1, 2, 3, 20, 520, 521, 70000} {
		b := make([]byte, n, n+3)
		filled(b, 1)
		for i := range b {
			b[i] = 0
		}
		if script.True(b) {
			t.Errorf("%d noughts are True", n)
		}
		for _, at := range []int{0, n / 2, n - 1} {
			for value := 1; value < 256; value++ {
				b[at] = byte(value)
				if !script.True(b) {
					t.Errorf("%d bytes with %d at %d aren't True", n, value, at)
				}
			}
			b[at] = 0
		}
	}
}

func FuzzWords(f *testing.F) {
	f.Add([]byte{2, 'a', 'b'}, []byte("abc"), []byte{})
	f.Add([]byte{77, 1}, make([]byte, 76), []byte{0})
	f.Fuzz(func(t *testing.T, b, first, second []byte) {
		code, pushed, size, e := script.Next(b)
		wantCode, wantPushed, wantSize, ok := wordReference(b)
		if code != wantCode || !bytes.Equal(pushed, wantPushed) || size != wantSize || (e == api.OK) != ok || !ok && e != api.ErrCode {
			t.Fatalf("Next of %v: %d %v %d, error %d", b, code, pushed, size, e)
		}
		if len(first) > 65535 || len(second) > 65535 {
			return
		}
		want := joined(b, headReference(len(first)), first, headReference(len(second)), second)
		if got := script.Push(b, first, second); !bytes.Equal(got, want) {
			t.Fatalf("Push %v %v %v: %v, want %v", b, first, second, got, want)
		}
	})
}
