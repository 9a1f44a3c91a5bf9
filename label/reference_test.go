package label_test

import (
	"bytes"
	"crypto/sha256"
	"strings"

	"byname/api"
)

// headReference is what stands ahead of n bytes that are pushed, as layer 7
// says it.
func headReference(n int) string {
	switch {
	case n <= 75:
		return string([]byte{byte(n)})
	case n <= 255:
		return string([]byte{76, byte(n)})
	}
	return string([]byte{77, byte(n), byte(n >> 8)})
}

func pushReference(p string) string { return headReference(len(p)) + p }

func commitReference(rand, name string) api.Short {
	once := sha256.Sum256([]byte(rand + name))
	twice := sha256.Sum256(once[:])
	return api.Short(twice[:20])
}

// rightReference asks one thing after the other, each for itself.
func rightReference(d api.Deed) bool {
	hasCommit := d.Commit != api.Short{}
	goodName := len(d.Name) >= 1 && len(d.Name) <= 64
	goodRand := len(d.Rand) >= 1 && len(d.Rand) <= 32
	goodValue := len(d.Value) <= 200
	switch d.Kind {
	case 0:
		return !hasCommit && len(d.Name)+len(d.Value)+len(d.Rand) == 0
	case 1:
		return len(d.Name)+len(d.Value)+len(d.Rand) == 0
	case 2:
		return !hasCommit && goodName && goodRand && goodValue
	case 3:
		return !hasCommit && goodName && goodValue && d.Rand == ""
	}
	return false
}

// wordsReference is what stands ahead of the rest, of any deed of a kind.
func wordsReference(d api.Deed) string {
	switch d.Kind {
	case 1:
		return "\x51" + pushReference(string(d.Commit[:])) + "\x6d"
	case 2:
		return "\x52" + pushReference(d.Name) + pushReference(d.Rand) + pushReference(d.Value) + "\x6d\x6d"
	case 3:
		return "\x53" + pushReference(d.Name) + pushReference(d.Value) + "\x6d\x75"
	}
	return ""
}

func lockReference(d api.Deed, rest string) (string, api.Errno) {
	if !rightReference(d) {
		return "", 81
	}
	if d.Kind == 0 && rest != "" && strings.Contains("\x51\x52\x53", rest[:1]) {
		return "", 81
	}
	return wordsReference(d) + rest, 0
}

// taken is the first piece of b, if it has from least to most bytes, in the
// form that Push gives them, and what is behind it.
func taken(b string, least, most int) (string, string, bool) {
	for n := least; n <= most; n++ {
		if tail, ok := strings.CutPrefix(b, headReference(n)); ok && len(tail) >= n {
			return tail[:n], tail[n:], true
		}
	}
	return "", "", false
}

// splitReference reads a lock byte by byte: each length that may be, in the
// form that it has, is tried.
func splitReference(lock string) (api.Deed, string, api.Errno) {
	if lock == "" || lock[0] < 81 || lock[0] > 83 {
		return api.Deed{}, lock, 0
	}
	d, b, ok := api.Deed{Kind: int(lock[0]) - 80}, lock[1:], true
	ending := "\x6d"
	switch d.Kind {
	case 1:
		var commit string
		if commit, b, ok = taken(b, 20, 20); ok {
			d.Commit = api.Short([]byte(commit))
		}
	case 2:
		ending = "\x6d\x6d"
		if d.Name, b, ok = taken(b, 1, 64); ok {
			if d.Rand, b, ok = taken(b, 1, 32); ok {
				d.Value, b, ok = taken(b, 0, 200)
			}
		}
	case 3:
		ending = "\x6d\x75"
		if d.Name, b, ok = taken(b, 1, 64); ok {
			d.Value, b, ok = taken(b, 0, 200)
		}
	}
	rest, ends := strings.CutPrefix(b, ending)
	if !ok || !ends {
		return api.Deed{}, "", 81
	}
	return d, rest, 0
}

func sample(n int) []byte {
	b := make([]byte, n)
	x := uint32(n)*2654435761 + 1
	for i := range b {
		x = x*1664525 + 1013904223
		b[i] = byte(x >> 24)
	}
	return b
}

func text(n int) string { return string(sample(n)) }

// filled writes over a list, and over its spare room.
func filled(b []byte, with byte) {
	room := b[:cap(b)]
	for i := range room {
		room[i] = with
	}
}

// roomy is b with spare room behind it.
func roomy(b []byte) []byte {
	l := bytes.Repeat([]byte{0xEE}, len(b)+500)
	copy(l, b)
	return l[:len(b)]
}
