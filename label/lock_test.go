package label_test

import (
	"bytes"
	"math/rand"
	"strings"
	"testing"

	"byname/api"
	"byname/curve"
	"byname/digest"
	"byname/label"
	"byname/script"
	"byname/sign"
	"byname/wide"
)

// rests are what may stand behind a deed: nothing, words, no words, deeds.
var rests = []string{"", "\x00", "\x50", "\x51", "\x51\x6d", "\x52", "\x53", "\x53\x01a\x00\x6d\x75", "\x54", "\x6d", "\x75", "\x14abc",
	"\x4c", "\x4d\xff", "\xff", "\x01\x09\x87", text(20), text(300), text(2500)}

// holdLock asks for a lock, and holds it against the reference; and what it is
// split into again.
func holdLock(t *testing.T, d api.Deed, rest string) api.Errno {
	t.Helper()
	want, e := lockReference(d, rest)
	got, gotError := label.Lock(d, []byte(rest))
	if string(got) != want || gotError != e {
		t.Fatalf("Lock %+v %.20q: %.60q, error %d, want %.60q, error %d", d, rest, got, gotError, want, e)
	}
	if e == api.OK {
		holdSplit(t, got)
		back, tail, e := label.Split(got)
		if back != d || string(tail) != rest || e != api.OK {
			t.Fatalf("Split of Lock %+v %.20q: %+v %.20q, error %d", d, rest, back, tail, e)
		}
	}
	return e
}

// holdSplit splits a lock, and holds it against the reference; and the lock of
// what it was split into.
func holdSplit(t *testing.T, lock []byte) api.Errno {
	t.Helper()
	want, tail, e := splitReference(string(lock))
	got, gotTail, gotError := label.Split(lock)
	if got != want || string(gotTail) != tail || gotError != e {
		t.Fatalf("Split %.60q: %+v %.20q, error %d, want %+v %.20q, error %d", lock, got, gotTail, gotError, want, tail, e)
	}
	if e == api.OK {
		again, e := label.Lock(got, gotTail)
		if !bytes.Equal(again, lock) || e != api.OK || !label.Right(got) {
			t.Fatalf("Lock of Split %.60q: %.60q, error %d", lock, again, e)
		}
	}
	return e
}

// P8.2, P8.3, Examples: locks written out, with what is split off them.
func TestLockWritten(t *testing.T) {
	commit := api.Short([]byte("abcdefghijklmnopqrst"))
	n64, r32 := strings.Repeat("n", 64), strings.Repeat("r", 32)
	for _, c := range []struct {
		d          api.Deed
		rest, want string
	}{
		{api.Deed{}, "", ""},
		{api.Deed{}, "\x54", "\x54"},
		{api.Deed{}, "\x50\x51\x52", "\x50\x51\x52"},
		{api.Deed{}, "\x00\x53", "\x00\x53"},
		{api.Deed{Kind: 1}, "", "\x51\x14" + strings.Repeat("\x00", 20) + "\x6d"},
		{api.Deed{Kind: 1, Commit: commit}, "\xac", "\x51\x14abcdefghijklmnopqrst\x6d\xac"},
		{api.Deed{Kind: 1, Commit: commit}, "\x51", "\x51\x14abcdefghijklmnopqrst\x6d\x51"},
		{api.Deed{Kind: 2, Name: "d/x", Rand: "salt", Value: "here"}, "\x51", "\x52\x03d/x\x04salt\x04here\x6d\x6d\x51"},
		{api.Deed{Kind: 2, Name: "a", Rand: "\x01"}, "", "\x52\x01a\x01\x01\x00\x6d\x6d"},
		{api.Deed{Kind: 2, Name: "\x00", Rand: "\x00", Value: "\x00"}, "\x6d", "\x52\x01\x00\x01\x00\x01\x00\x6d\x6d\x6d"},
		{api.Deed{Kind: 2, Name: n64, Rand: r32, Value: strings.Repeat("v", 75)}, "",
			"\x52\x40" + n64 + "\x20" + r32 + "\x4b" + strings.Repeat("v", 75) + "\x6d\x6d"},
		{api.Deed{Kind: 2, Name: "a", Rand: "b", Value: strings.Repeat("v", 76)}, "\x53",
			"\x52\x01a\x01b\x4c\x4c" + strings.Repeat("v", 76) + "\x6d\x6d\x53"},
		{api.Deed{Kind: 3, Name: "d/x", Value: "there"}, "\x51", "\x53\x03d/x\x05there\x6d\x75\x51"},
		{api.Deed{Kind: 3, Name: "d/x"}, "", "\x53\x03d/x\x00\x6d\x75"},
		{api.Deed{Kind: 3, Name: n64, Value: strings.Repeat("v", 200)}, "",
			"\x53\x40" + n64 + "\x4c\xc8" + strings.Repeat("v", 200) + "\x6d\x75"},
	} {
		got, e := label.Lock(c.d, []byte(c.rest))
		if string(got) != c.want || e != api.OK {
			t.Errorf("Lock %+v %q: %q, error %d, want %q", c.d, c.rest, got, e, c.want)
		}
		d, rest, e := label.Split([]byte(c.want))
		if d != c.d || string(rest) != c.rest || e != api.OK {
			t.Errorf("Split %q: %+v %q, error %d", c.want, d, rest, e)
		}
		holdLock(t, c.d, c.rest)
	}
}

// P8.2: all kinds and edges, with all that may stand behind.
func TestLock(t *testing.T) {
	seen := map[api.Errno]int{}
	for i, d := range deeds() {
		seen[holdLock(t, d, rests[i%len(rests)])]++
		if label.Right(d) {
			for _, rest := range rests {
				seen[holdLock(t, d, rest)]++
			}
		}
	}
	if seen[api.OK] < 1000 || seen[api.ErrLabel] < 1000 || len(seen) != 2 {
		t.Errorf("errors %v", seen)
	}
}

// P8.2, P8.3: of a lock without a deed the first byte tells.
func TestFirstByte(t *testing.T) {
	for first := range 256 {
		for _, tail := range rests {
			rest := string([]byte{byte(first)}) + tail
			want := api.OK
			if first >= 81 && first <= 83 {
				want = api.ErrLabel
			}
			if e := holdLock(t, api.Deed{}, rest); e != want {
				t.Errorf("%q: error %d", rest, e)
			}
			holdSplit(t, []byte(rest))
		}
	}
	if d, rest, e := label.Split(nil); d != (api.Deed{}) || len(rest) != 0 || e != api.OK {
		t.Error(d, rest, e)
	}
	if lock, e := label.Lock(api.Deed{}, nil); len(lock) != 0 || e != api.OK {
		t.Error(lock, e)
	}
}

// refuse splits a lock that seems to say something, but doesn't.
func refuse(t *testing.T, lock string) {
	t.Helper()
	d, rest, e := label.Split([]byte(lock))
	if d != (api.Deed{}) || len(rest) != 0 || e != api.ErrLabel {
		t.Errorf("Split %.60q: %+v %.20q, error %d", lock, d, rest, e)
	}
	holdSplit(t, []byte(lock))
}

// P8.3, Examples: locks that are none, written out.
func TestRefused(t *testing.T) {
	twenty := text(20)
	for _, lock := range []string{
		"\x51", "\x52", "\x53", "\x51\x51", "\x51\x6d", "\x52\x6d\x6d", "\x53\x6d\x75",
		"\x51\x13" + text(19) + "\x6d",
		"\x51\x15" + text(21) + "\x6d",
		"\x51\x14" + twenty[:19] + "\x6d",
		"\x51\x13" + twenty[:19] + "\x6d\x6d",
		"\x51\x14" + twenty,
		"\x51\x14" + twenty + "\x75",
		"\x51\x14" + twenty + "\x6c",
		"\x51\x00\x6d",
		"\x51\x51\x6d",
		"\x51\x4c\x14" + twenty + "\x6d",
		"\x51\x4d\x14\x00" + twenty + "\x6d",
		"\x51\x15" + twenty + "\x6d\x6d",
		"\x51\x15" + twenty + "\x00\x6d",
		"\x52\x01a\x01b\x01c\x6d",
		"\x52\x01a\x01b\x01c\x6d\x75",
		"\x52\x01a\x01b\x01c\x75\x75\x75\x75",
		"\x52\x01a\x01b\x01c\x75\x6d",
		"\x52\x01a\x01b\x6d\x6d",
		"\x52\x00\x01b\x01c\x6d\x6d",
		"\x52\x01a\x00\x01c\x6d\x6d",
		"\x52\x51\x01b\x01c\x6d\x6d",
		"\x52\x01a\x51\x01c\x6d\x6d",
		"\x52\x01a\x01b\x51\x6d\x6d",
		"\x52\x4c\x01a\x01b\x01c\x6d\x6d",
		"\x52\x01a\x4c\x01b\x01c\x6d\x6d",
		"\x52\x01a\x01b\x4c\x01c\x6d\x6d",
		"\x52\x01a\x01b\x4c\x00\x6d\x6d",
		"\x52\x01a\x01b\x4d\x00\x00\x6d\x6d",
		"\x52\x01a\x01b\x61\x6d\x6d",
		"\x52\x61\x01b\x01c\x6d\x6d",
		"\x53\x01a\x01b\x6d\x6d",
		"\x53\x01a\x01b\x75\x6d",
		"\x53\x01a\x01b\x6d",
		"\x53\x01a\x01b\x01c\x6d\x75",
		"\x53\x01a\x6d\x75",
		"\x53\x00\x01b\x6d\x75",
		"\x53\x01a\x60\x6d\x75",
		"\x53\x01a\x61\x6d\x75",
		"\x53\x01a\x50\x6d\x75",
		"\x51\x01\x03\x6d",
	} {
		refuse(t, lock)
	}
}

// P8.3: pieces that are too long, or in another form than Push gives them, each
// in its place, with all else as it must be.
func TestRefusedPieces(t *testing.T) {
	word := pushReference
	for _, n := range edges {
		if n > 64 || n == 0 {
			refuse(t, "\x52"+word(text(n))+"\x01b\x01c\x6d\x6d")
			refuse(t, "\x53"+word(text(n))+"\x01c\x6d\x75")
		}
		if n > 32 || n == 0 {
			refuse(t, "\x52\x01a"+word(text(n))+"\x01c\x6d\x6d")
		}
		if n > 200 {
			refuse(t, "\x52\x01a\x01b"+word(text(n))+"\x6d\x6d")
			refuse(t, "\x53\x01a"+word(text(n))+"\x6d\x75")
		}
		if n != 20 {
			refuse(t, "\x51"+word(text(n))+"\x6d")
		}
	}
	for n := range 201 {
		other := []string{string([]byte{77, byte(n), 0}) + text(n)}
		if n <= 75 {
			other = append(other, string([]byte{76, byte(n)})+text(n))
		}
		for _, p := range other {
			refuse(t, "\x51"+p+"\x6d")
			refuse(t, "\x52"+p+"\x01b\x01c\x6d\x6d")
			refuse(t, "\x52\x01a"+p+"\x01c\x6d\x6d")
			refuse(t, "\x52\x01a\x01b"+p+"\x6d\x6d")
			refuse(t, "\x53"+p+"\x01c\x6d\x75")
			refuse(t, "\x53\x01a"+p+"\x6d\x75")
		}
	}
	for code := 76; code < 256; code++ { // What no piece of a deed begins with.
		if code > 77 {
			c := string([]byte{byte(code)})
			refuse(t, "\x52"+c+"\x01b\x01c\x6d\x6d")
			refuse(t, "\x52\x01a"+c+"\x01c\x6d\x6d")
			refuse(t, "\x52\x01a\x01b"+c+"\x6d\x6d")
			refuse(t, "\x53"+c+"\x01c\x6d\x75")
			refuse(t, "\x53\x01a"+c+"\x6d\x75")
			refuse(t, "\x51"+c+"\x6d")
		}
	}
}

// whole are right deeds' locks, of each kind, without a rest.
func whole() []string {
	var l []string
	for _, d := range []api.Deed{
		{Kind: 1, Commit: commitOf(1)},
		{Kind: 2, Name: "d/x", Rand: "salt", Value: "here"},
		{Kind: 2, Name: text(64), Rand: text(32), Value: text(200)},
		{Kind: 2, Name: "n", Rand: "r"},
		{Kind: 3, Name: "d/x", Value: "there"},
		{Kind: 3, Name: text(64), Value: text(76)},
		{Kind: 3, Name: "n"},
	} {
		l = append(l, wordsReference(d))
	}
	return l
}

// P8.3: a lock that ends within its deed is none, wherever it ends.
func TestTorn(t *testing.T) {
	for _, lock := range whole() {
		for n := 1; n < len(lock); n++ {
			refuse(t, lock[:n])
		}
		if e := holdSplit(t, []byte(lock)); e != api.OK {
			t.Errorf("%.60q: error %d", lock, e)
		}
	}
}

// P8.3: each byte of a lock, changed to each other one, taken out, or doubled.
func TestChanged(t *testing.T) {
	for _, lock := range whole() {
		for at := range lock {
			for b := range 256 {
				c := []byte(lock + "\x51")
				c[at] = byte(b)
				holdSplit(t, c)
			}
			holdSplit(t, []byte(lock[:at]+lock[at+1:]))
			holdSplit(t, []byte(lock[:at+1]+lock[at:]))
		}
	}
}

// piece is bytes as a deed may have them, or nearly.
func piece(r *rand.Rand) string {
	n := edges[r.Intn(len(edges)-4)]
	if r.Intn(2) == 0 {
		n = r.Intn(33)
	}
	b := text(n)
	switch r.Intn(12) {
	case 0:
		return string([]byte{76, byte(n)}) + b
	case 1:
		return string([]byte{77, byte(n), byte(n >> 8)}) + b
	case 2:
		return string([]byte{byte(r.Intn(256))})
	}
	return pushReference(b)
}

// P8.3: rows of pieces and words, many of them nearly a deed's.
func TestMixed(t *testing.T) {
	r := rand.New(rand.NewSource(8))
	endings := []string{"\x6d", "\x6d\x6d", "\x6d\x75", "\x75", "\x75\x6d", ""}
	seen := map[int]int{}
	for range 60000 {
		kind := r.Intn(4)
		lock, pieces := string([]byte{byte(80 + kind)}), []int{0, 1, 3, 2}[kind]
		if r.Intn(8) == 0 {
			pieces += r.Intn(3) - 1
		}
		for range pieces {
			if kind == 1 && r.Intn(4) > 0 {
				lock += pushReference(text(20))
			} else {
				lock += piece(r)
			}
		}
		ending := endings[max(kind-1, 0)]
		if r.Intn(6) == 0 {
			ending = endings[r.Intn(len(endings))]
		}
		if e := holdSplit(t, []byte(lock+ending+rests[r.Intn(len(rests))])); e == api.OK {
			seen[kind]++
		} else {
			seen[-kind]++
		}
	}
	for _, kind := range []int{0, 1, 2, 3, -1, -2, -3} {
		if seen[kind] < 500 {
			t.Errorf("kind %d came %d times only", kind, seen[kind])
		}
	}
}

// P8.2: what a deed pushes goes again: a lock opens by what opens its rest.
func TestOpens(t *testing.T) {
	secret, h := wide.Of(8), digest.Sum([]byte("a deed"))
	a, _ := sign.Public(secret)
	s, e := sign.Sign(secret, h, wide.Of(88))
	if e != api.OK {
		t.Fatal(e)
	}
	point := curve.Bytes(a)
	opening := script.Push(nil, sign.Bytes(s), point)
	pay := script.PayTo(digest.Short(point))
	for _, words := range whole() {
		d, _, _ := label.Split([]byte(words))
		for _, c := range []struct {
			unlock, rest []byte
			want         api.Errno
		}{
			{opening, pay, api.OK},
			{nil, pay, api.ErrStack},
			{script.Push(nil, sign.Bytes(s), []byte("x")), pay, api.ErrFalse},
			{nil, nil, api.ErrFalse},
			{[]byte{81}, nil, api.OK},
			{[]byte{0}, nil, api.ErrFalse},
			{nil, []byte{117}, api.ErrStack},
			{[]byte{1, 9}, []byte{1, 9, 135}, api.OK},
		} {
			lock, e := label.Lock(d, c.rest)
			if e != api.OK {
				t.Fatal(e)
			}
			if got := script.Run(c.unlock, lock, h); got != c.want {
				t.Errorf("%.30q before %.30q: error %d, want %d", words, c.rest, got, c.want)
			}
		}
	}
}

// P8.1 to P8.3: a name is committed to, told, and told anew.
func TestStory(t *testing.T) {
	rest := []byte{1, 9, 135}
	first := api.Deed{Kind: api.NameFirst, Name: "d/byname", Rand: "a secret", Value: "here"}
	committed, e := label.Lock(api.Deed{Kind: api.NameNew, Commit: label.Commit(first.Rand, first.Name)}, rest)
	if e != api.OK {
		t.Fatal(e)
	}
	told, e := label.Lock(first, rest)
	if e != api.OK {
		t.Fatal(e)
	}
	a, _, _ := label.Split(committed)
	b, _, _ := label.Split(told)
	if label.Named(a) || !label.Named(b) || a.Commit != label.Commit(b.Rand, b.Name) {
		t.Errorf("%+v %+v", a, b)
	}
}

// The rules: what is handed in isn't changed, spare room included.
func TestUnchanged(t *testing.T) {
	for _, words := range whole() {
		for _, rest := range rests {
			lock := roomy([]byte(words + rest))
			before := bytes.Clone(lock[:cap(lock)])
			d, tail, e := label.Split(lock)
			if e != api.OK {
				t.Fatal(e)
			}
			filled(tail, 0xAA)
			if !bytes.Equal(lock[:cap(lock)], before) {
				t.Errorf("Split %.30q %.20q has changed it, or shares it", words, rest)
			}

			handed := roomy([]byte(rest))
			before = bytes.Clone(handed[:cap(handed)])
			made, e := label.Lock(d, handed)
			if e != api.OK {
				t.Fatal(e)
			}
			filled(made, 0xAA)
			if !bytes.Equal(handed[:cap(handed)], before) {
				t.Errorf("Lock %.30q %.20q has changed it, or shares it", words, rest)
			}
		}
	}
	for _, b := range []string{"", "\x00", "\x54\x51", text(300)} {
		none := roomy([]byte(b))
		before := bytes.Clone(none[:cap(none)])
		lock, _ := label.Lock(api.Deed{}, none)
		_, rest, _ := label.Split(none)
		filled(lock, 0xAA)
		if len(rest) > 0 && rest[0] == 0xAA {
			t.Errorf("%.20q: two answers share memory", b)
		}
		filled(rest, 0xBB)
		if !bytes.Equal(none[:cap(none)], before) {
			t.Errorf("%.20q: changed, or shared", b)
		}
	}
}

// The rules: an answer isn't kept, nor what was handed in: both may be written
// over.
func TestNotKept(t *testing.T) {
	for _, words := range whole() {
		lock := roomy([]byte(words + "\x51rest"))
		d, rest, e := label.Split(lock)
		filled(lock, 0xCC)
		want, tail, _ := splitReference(words + "\x51rest")
		if d != want || string(rest) != tail || e != api.OK {
			t.Errorf("%.30q: %+v %q, error %d, behind a writing over", words, d, rest, e)
		}
		for range 2 {
			made, e := label.Lock(d, rest)
			if string(made) != words+"\x51rest" || e != api.OK {
				t.Errorf("%.30q: Lock %q, error %d", words, made, e)
			}
			filled(made, 0xDD)
		}
	}
}

// P1: great lists and texts, too.
func TestGreat(t *testing.T) {
	great := strings.Repeat("\x51", 1<<22)
	for _, d := range []api.Deed{{}, {Kind: 1, Commit: commitOf(2)}, {Kind: 2, Name: "a", Rand: "b"}, {Kind: 3, Name: "a"},
		{Kind: 2, Name: great, Rand: "b"}, {Kind: 2, Name: "a", Rand: great}, {Kind: 3, Name: "a", Value: great}, {Name: great}} {
		holdLock(t, d, great)
		holdLock(t, d, "\x00"+great)
	}
	for _, head := range []string{"\x51", "\x51\x4d\xff\xff", "\x52\x4d\xff\xff", "\x52\x01a\x4d\xff\xff", "\x53\x4d\xff\xff", "\x53\x01a\x4d\xff\xff"} {
		refuse(t, head+great)
	}
	if label.Commit(great, great) != commitReference(great, great) {
		t.Error("Commit")
	}
}

func FuzzSplit(f *testing.F) {
	for _, words := range whole() {
		f.Add([]byte(words))
		f.Add([]byte(words + "\x76\xa9"))
		f.Add([]byte(words[1:]))
	}
	f.Fuzz(func(t *testing.T, lock []byte) { holdSplit(t, lock) })
}

func FuzzLock(f *testing.F) {
	f.Add(0, "", "", "", []byte{}, []byte{84})
	f.Add(1, "", "", "", []byte("abcdefghijklmnopqrst"), []byte{81})
	f.Add(2, "d/x", "salt", "here", []byte{}, []byte{81})
	f.Add(3, "d/x", "", "there", []byte{}, []byte{})
	f.Fuzz(func(t *testing.T, kind int, name, salt, value string, commit, rest []byte) {
		d := api.Deed{Kind: kind, Name: name, Rand: salt, Value: value}
		copy(d.Commit[:], commit)
		if got := label.Right(d); got != rightReference(d) {
			t.Fatalf("Right %+v: %t", d, got)
		}
		if got := label.Commit(salt, name); got != commitReference(salt, name) {
			t.Fatalf("Commit %q %q: %v", salt, name, got)
		}
		holdLock(t, d, string(rest))
	})
}
