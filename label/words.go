package label

import (
	"byname/api"
	"byname/script"
)

// The codes of a deed's words. What a deed's kind is, its first word tells.
const (
	wordNew     = 81
	wordFirst   = 82
	wordUpdate  = 83
	wordDropTwo = 109
	wordDrop    = 117
)

// How many pieces are pushed behind a deed's first word, by its kind.
var pieceCounts = [...]int{
	api.NameNone:   0,
	api.NameNew:    1,
	api.NameFirst:  3,
	api.NameUpdate: 2,
}

// kindOf is what a lock seems to say.
func kindOf(lock []byte) int {
	if len(lock) == 0 {
		return api.NameNone
	}
	switch lock[0] {
	case wordNew:
		return api.NameNew
	case wordFirst:
		return api.NameFirst
	case wordUpdate:
		return api.NameUpdate
	}
	return api.NameNone
}

// words is what a deed that is right has ahead of the rest, in new memory.
func words(d api.Deed) []byte {
	switch d.Kind {
	case api.NameNew:
		return dropped(script.Push([]byte{wordNew}, d.Commit[:]), d.Kind)
	case api.NameFirst:
		return dropped(script.Push([]byte{wordFirst}, []byte(d.Name), []byte(d.Rand), []byte(d.Value)), d.Kind)
	case api.NameUpdate:
		return dropped(script.Push([]byte{wordUpdate}, []byte(d.Name), []byte(d.Value)), d.Kind)
	}
	return nil
}

// dropped is b, and the words by which all that a deed has pushed goes again:
// a deed is told, but the rest alone says who opens the lock.
func dropped(b []byte, kind int) []byte {
	pushed := 1 + pieceCounts[kind] // The first word is a push, too.
	for range pushed / 2 {
		b = append(b, wordDropTwo)
	}
	if pushed%2 == 1 {
		b = append(b, wordDrop)
	}
	return b
}

// read is the deed that a lock seems to have, if there are pieces enough.
func read(lock []byte) (api.Deed, bool) {
	kind := kindOf(lock)
	if kind == api.NameNone {
		return api.Deed{}, true
	}
	pieces, ok := readPieces(lock[1:], pieceCounts[kind])
	if !ok {
		return api.Deed{}, false
	}
	return deedOf(kind, pieces), true
}

// readPieces is what the first n words push.
func readPieces(b []byte, n int) ([][]byte, bool) {
	pieces := make([][]byte, 0, n)
	for range n {
		_, piece, size, e := script.Next(b)
		if e != api.OK {
			return nil, false
		}
		pieces = append(pieces, piece)
		b = b[size:]
	}
	return pieces, true
}

// deedOf is a kind with its pieces, as they stand in a lock. A Commit of
// another length isn't refused here: it won't be the one that is written anew.
func deedOf(kind int, pieces [][]byte) api.Deed {
	d := api.Deed{Kind: kind}
	switch kind {
	case api.NameNew:
		copy(d.Commit[:], pieces[0])
	case api.NameFirst:
		d.Name, d.Rand, d.Value = string(pieces[0]), string(pieces[1]), string(pieces[2])
	case api.NameUpdate:
		d.Name, d.Value = string(pieces[0]), string(pieces[1])
	}
	return d
}
