package digest_test

import (
	"bytes"
	"crypto/sha256"
	"fmt"
	"strings"
	"testing"

	"byname/api"
	"byname/digest"
)

// edges are the lengths at which what comes behind the bytes changes its form.
var edges = []int{0, 1, 54, 55, 56, 57, 62, 63, 64, 65, 118, 119, 120, 121, 127, 128, 129, 183, 184, 1000}

func sample(n int) []byte {
	b := make([]byte, n)
	x := uint32(n)*2654435761 + 1
	for i := range b {
		x = x*1664525 + 1013904223
		b[i] = byte(x >> 24)
	}
	return b
}

func inDigits(h api.Hash) string { return fmt.Sprintf("%x", h[:]) }

// P1.1: sums that are published.
func TestSumOfKnownTexts(t *testing.T) {
	for _, c := range [][2]string{
		{"", "e3b0c44298fc1c149afbf4c8996fb92427ae41e4649b934ca495991b7852b855"},
		{"abc", "ba7816bf8f01cfea414140de5dae2223b00361a396177a9cb410ff61f20015ad"},
		{"abcdbcdecdefdefgefghfghighijhijkijkljklmklmnlmnomnopnopq", "248d6a61d20638b8e5c026930c3e6039a33ce45964ff2167f6ecedd419db06c1"},
		{"abcdefghbcdefghicdefghijdefghijkefghijklfghijklmghijklmnhijklmnoijklmnopjklmnopqklmnopqrlmnopqrsmnopqrstnopqrstu", "cf5b16a778af8380036ce59e7b0492370b249b11e8f07a51afac45037afee9d1"},
		{strings.Repeat("a", 1000000), "cdc76e5c9914fb9281a1c7e284d73e67f1809a48a497200e046d39ccc7112cd0"},
	} {
		if got := inDigits(digest.Sum([]byte(c[0]))); got != c[1] {
			t.Errorf("%.60q: %s, want %s", c[0], got, c[1])
		}
	}
}

// P1.1: every length up to some blocks, and the edges.
func TestSumOfEveryLength(t *testing.T) {
	check := func(n int) {
		b := sample(n)
		if got, want := digest.Sum(b), api.Hash(sha256.Sum256(b)); got != want {
			t.Errorf("%d bytes: %x, want %x", n, got, want)
		}
	}
	for n := range 400 {
		check(n)
	}
	for _, n := range edges {
		check(n)
	}
	for _, n := range []int{65535, 65536, 1 << 20, 1<<20 + 55} {
		check(n)
	}
}

// P1.1: no list at all, and lists that are nil or empty.
func TestSumOfNothing(t *testing.T) {
	want := api.Hash(sha256.Sum256(nil))
	if want[0] != 0xE3 || want[1] != 0xB0 || want[2] != 0xC4 || want[3] != 0x42 {
		t.Fatal("the document's example")
	}
	for i, l := range [][][]byte{nil, {}, {nil}, {{}}, {nil, {}, nil}} {
		if got := digest.Sum(l...); got != want {
			t.Errorf("%d: %x", i, got)
		}
	}
	b := []byte("abc")
	if digest.Sum(nil, b[:1], []byte{}, nil, b[1:], nil) != digest.Sum(b) {
		t.Error("empty lists between others count")
	}
}

// P1.1: the same bytes, cut into other pieces.
func TestSumOfPieces(t *testing.T) {
	for _, n := range edges {
		b := sample(n)
		want := digest.Sum(b)
		for _, cut := range edges {
			if cut > n {
				continue
			}
			if digest.Sum(b[:cut], b[cut:]) != want {
				t.Errorf("%d bytes, cut at %d", n, cut)
			}
		}
		for _, size := range []int{1, 7, 63, 64, 65} {
			var l [][]byte
			for at := 0; at < n; at += size {
				l = append(l, b[at:min(at+size, n)])
			}
			if digest.Sum(l...) != want {
				t.Errorf("%d bytes, in pieces of %d", n, size)
			}
		}
	}
	if digest.Sum([]byte("ab"), []byte("c")) == digest.Sum([]byte("c"), []byte("ab")) {
		t.Error("the lists' order doesn't count")
	}
}

// P1.2: the sum's bytes, summed once more.
func TestTwice(t *testing.T) {
	for _, n := range edges {
		b := sample(n)
		once := sha256.Sum256(b)
		want := api.Hash(sha256.Sum256(once[:]))
		if digest.Twice(b) != want {
			t.Errorf("%d bytes: %x, want %x", n, digest.Twice(b), want)
		}
		if digest.Twice(b[:n/2], nil, b[n/2:]) != want {
			t.Errorf("%d bytes in pieces", n)
		}
	}
	if got := inDigits(digest.Twice()); got != "5df6e0e2761359d30a8275058e299fcc0381534545f55cf43e41983f5d4c9456" {
		t.Errorf("of no list: %s", got)
	}
}

// P1.2: the first 20 bytes of Twice.
func TestShort(t *testing.T) {
	for _, n := range edges {
		b := sample(n)
		twice := digest.Twice(b)
		for i, got := range []api.Short{digest.Short(b), digest.Short(b[:n/3], b[n/3:])} {
			if !bytes.Equal(got[:], twice[:20]) {
				t.Errorf("%d bytes, %d: %x, want the beginning of %x", n, i, got, twice)
			}
		}
	}
	if got := digest.Short(); fmt.Sprintf("%x", got[:]) != "5df6e0e2761359d30a8275058e299fcc03815345" {
		t.Errorf("of no list: %x", got)
	}
}

// P1.2: a Hasher is asked, and more is added then.
func TestHasherIsAskedAndAddedTo(t *testing.T) {
	if h := digest.New(); h.Sum() != digest.Sum() {
		t.Error("New isn't of nothing")
	}
	for _, n := range edges {
		b := sample(n)
		for _, cut := range edges {
			if cut > n {
				continue
			}
			h := digest.New()
			h.Add(b[:cut])
			if h.Sum() != digest.Sum(b[:cut]) || h.Sum() != digest.Sum(b[:cut]) {
				t.Errorf("%d bytes: asked at %d", n, cut)
			}
			h.Add(b[cut:])
			if h.Sum() != digest.Sum(b) {
				t.Errorf("%d bytes: asked at %d, then added to", n, cut)
			}
		}
	}
	h := digest.New()
	all := sample(300)
	for i := range all {
		h.Add(all[i : i+1])
		if want := api.Hash(sha256.Sum256(all[:i+1])); h.Sum() != want {
			t.Fatalf("asked at every byte: wrong behind %d", i+1)
		}
	}
}

// P1.2: adding many lists, none, or empty ones.
func TestHasherAddsLists(t *testing.T) {
	b := sample(200)
	h := digest.New()
	h.Add()
	h.Add(nil, []byte{})
	h.Add(b[:10], nil, b[10:70], b[70:70], b[70:150])
	h.Add()
	h.Add(b[150:])
	if h.Sum() != digest.Sum(b) {
		t.Error("the lists aren't one behind the other")
	}
}

// P2: one Hasher's bytes are no other one's.
func TestHashersStandAlone(t *testing.T) {
	a, b := digest.New(), digest.New()
	a.Add([]byte("a"))
	b.Add([]byte("b"))
	digest.Sum(sample(500))
	a.Add([]byte("bc"))
	if a.Sum() != digest.Sum([]byte("abc")) || b.Sum() != digest.Sum([]byte("b")) {
		t.Error("two Hashers share something")
	}
}

// What is handed in is neither changed, spare room included, nor kept.
func TestArgumentsStayAndAreNotKept(t *testing.T) {
	for _, n := range edges {
		room := bytes.Repeat([]byte{0x5A}, n+200)
		copy(room, sample(n))
		was := bytes.Clone(room)
		b := room[:n]
		l := [][]byte{b, b, nil}[:1]
		digest.Sum(l...)
		digest.Twice(l...)
		digest.Short(l...)
		h := digest.New()
		h.Add(l...)
		want := h.Sum()
		if !bytes.Equal(room, was) || len(l[:2][1]) != n {
			t.Fatalf("%d bytes: an argument was written", n)
		}
		for i := range room {
			room[i] ^= 0xFF
		}
		if h.Sum() != want {
			t.Errorf("%d bytes: an argument was kept", n)
		}
	}
}

// P1.3: the last byte first, two digits each.
func TestText(t *testing.T) {
	var h api.Hash
	if got := digest.Text(h); got != strings.Repeat("0", 64) {
		t.Errorf("of noughts: %s", got)
	}
	for i := range h {
		h[i] = byte(i)
	}
	want := "1f1e1d1c1b1a191817161514131211100f0e0d0c0b0a09080706050403020100"
	if got := digest.Text(h); got != want {
		t.Errorf("%s, want %s", got, want)
	}
	for x := range 256 {
		for at := range h {
			var h api.Hash
			h[at] = byte(x)
			want := strings.Repeat("00", 31-at) + fmt.Sprintf("%02x", x) + strings.Repeat("00", at)
			if got := digest.Text(h); got != want {
				t.Fatalf("byte %d at %d: %s, want %s", x, at, got, want)
			}
		}
	}
}

// P1.3: Parse answers the Hash of which that is the Text.
func TestParseOfText(t *testing.T) {
	for n := range 300 {
		h := digest.Sum(sample(n))
		if got, ok := digest.Parse(digest.Text(h)); !ok || got != h {
			t.Errorf("%d: %x %v, want %x", n, got, ok, h)
		}
	}
	for _, digit := range "0123456789abcdef" {
		s := strings.Repeat(string(digit), 64)
		if h, ok := digest.Parse(s); !ok || digest.Text(h) != s {
			t.Errorf("%s: %x %v", s, h, ok)
		}
	}
}

// P1.3: a text that is too short or too long is none's.
func TestParseOfWrongLengths(t *testing.T) {
	text := digest.Text(digest.Sum([]byte("abc")))
	long := text + text + text
	for n := range len(long) {
		if n == 64 {
			continue
		}
		if h, ok := digest.Parse(long[:n]); ok || h != (api.Hash{}) {
			t.Errorf("%d digits: %x %v", n, h, ok)
		}
	}
	for _, s := range []string{" " + text, text + " ", text + "\n", "0x" + text, text + "\x00", "-"} {
		if h, ok := digest.Parse(s); ok || h != (api.Hash{}) {
			t.Errorf("%q: %x %v", s, h, ok)
		}
	}
}

// P1.3: a digit that no Text has, at any place; the Hash is zero then.
func TestParseOfWrongDigits(t *testing.T) {
	text := digest.Text(digest.Sum([]byte("abc")))
	for at := range len(text) {
		for x := range 256 {
			s := text[:at] + string([]byte{byte(x)}) + text[at+1:]
			right := strings.IndexByte("0123456789abcdef", byte(x)) >= 0
			h, ok := digest.Parse(s)
			if ok != right {
				t.Errorf("%q: %v", s, ok)
			}
			if ok && digest.Text(h) != s || !ok && h != (api.Hash{}) {
				t.Errorf("%q: %x", s, h)
			}
		}
	}
	for _, s := range []string{
		strings.ToUpper(text),
		"0x" + text[:62],
		"+" + text[:63],
		text[:62] + "\u00e9",
		strings.Repeat("\u0661", 32),
		strings.Repeat("\x00", 64),
	} {
		if h, ok := digest.Parse(s); len(s) != 64 || ok || h != (api.Hash{}) {
			t.Errorf("%q: %x %v", s, h, ok)
		}
	}
}

func FuzzSum(f *testing.F) {
	for _, n := range edges {
		f.Add(sample(n), uint(n/2))
	}
	f.Fuzz(func(t *testing.T, b []byte, cut uint) {
		at := int(cut % uint(len(b)+1))
		want := api.Hash(sha256.Sum256(b))
		h := digest.New()
		h.Add(b[:at])
		h.Sum()
		h.Add(b[at:])
		if digest.Sum(b) != want || digest.Sum(b[:at], b[at:]) != want || h.Sum() != want {
			t.Errorf("%x, cut at %d", b, at)
		}
	})
}

func FuzzParse(f *testing.F) {
	f.Add("")
	f.Add(strings.Repeat("0f", 32))
	f.Add(strings.Repeat("0F", 32))
	f.Fuzz(func(t *testing.T, s string) {
		h, ok := digest.Parse(s)
		if ok && digest.Text(h) != s || !ok && h != (api.Hash{}) {
			t.Errorf("%q: %x %v", s, h, ok)
		}
	})
}
