// Package digest is layer 1: see shared/doc/01-digest.md.
package digest

import "byname/api"

// Sum: of all lists' bytes, one behind the other (P1.1). The lists aren't
// joined first: they may be long, and no room of theirs is to be written.
func Sum(l ...[]byte) api.Hash {
	h := New()
	h.Add(l...)
	return h.Sum()
}

// Twice: the sum of the sum (P1.2).
func Twice(l ...[]byte) api.Hash {
	once := Sum(l...)
	return Sum(once[:])
}

// Short: the beginning of Twice (P1.2).
func Short(l ...[]byte) api.Short {
	twice := Twice(l...)
	return api.Short(twice[:api.ShortSize])
}

// Hasher has what was added so far, as no more than a sum still needs: the
// state behind all whole blocks, and the bytes of the block that isn't whole.
type Hasher struct {
	state  state
	begun  block
	length uint64
}

// New: of nothing (P1.2).
func New() *Hasher { return &Hasher{state: firstState()} }

// Add: these bytes, behind (P1.2).
func (h *Hasher) Add(l ...[]byte) {
	for _, b := range l {
		h.addList(b)
	}
}

func (h *Hasher) addList(b []byte) {
	for len(b) > 0 {
		at := h.length % blockSize
		n := copy(h.begun[at:], b)
		b = b[n:]
		h.length += uint64(n)
		if h.length%blockSize == 0 {
			h.state = h.state.mixed(h.begun)
		}
	}
}

// Sum: of all that was added (P1.2). It ends a copy, since more may be added
// to the Hasher itself.
func (h *Hasher) Sum() api.Hash {
	ended := *h
	ended.addList(ending(h.length))
	return ended.state.hash()
}

// ending is what comes behind that many bytes, so that all blocks are whole.
func ending(length uint64) []byte {
	noughts := (blockSize + lengthAt - 1 - length%blockSize) % blockSize
	b := make([]byte, 1+noughts, 1+noughts+lengthSize)
	b[0] = 128
	bits := length * 8
	for i := range lengthSize {
		b = append(b, byte(bits>>(56-8*i)))
	}
	return b
}
