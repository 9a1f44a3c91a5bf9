package script

import (
	"bytes"
	"math"

	"byname/api"
)

// The codes of pushes. Up to pushLongest a code is itself how many bytes come
// behind it.
const (
	pushLongest = 75
	pushByOne   = 76
	pushByTwo   = 77
	pushFirst   = 81
	pushLast    = 96
)

// The codes of words that are no pushes.
const (
	wordNothing     = 97
	wordIf          = 99
	wordUnless      = 100
	wordElse        = 103
	wordEnd         = 104
	wordCheck       = 105
	wordFail        = 106
	wordDropTwo     = 109
	wordDrop        = 117
	wordAgain       = 118
	wordOver        = 120
	wordSwap        = 124
	wordSize        = 130
	wordSame        = 135
	wordCheckSame   = 136
	wordSum         = 168
	wordShort       = 169
	wordSigned      = 172
	wordCheckSigned = 173
)

const byteBits = 8

// Next: of the first word its code, what it pushes, and how many bytes it has
// (P7.1).
func Next(b []byte) (byte, []byte, int, api.Errno) {
	head, pushed, ok := split(b)
	if !ok {
		return 0, nil, 0, api.ErrCode
	}
	size := len(head) + len(pushed)
	if code := head[0]; isSmall(code) {
		return code, []byte{code - pushFirst + 1}, size, api.OK
	}
	return head[0], bytes.Clone(pushed), size, api.OK
}

// split is the first word, where it stands: its code, with the bytes that tell
// a length, and the bytes behind these that it pushes.
func split(b []byte) (head, pushed []byte, ok bool) {
	if len(b) == 0 {
		return nil, nil, false
	}
	head, b, ok = cut(b, headSize(b[0]))
	if !ok {
		return nil, nil, false
	}
	pushed, _, ok = cut(b, sizeBehind(head))
	return head, pushed, ok
}

// cut is the first n bytes, and the rest, if there are so many.
func cut(b []byte, n int) (first, rest []byte, ok bool) {
	if len(b) < n {
		return nil, nil, false
	}
	return b[:n], b[n:], true
}

func headSize(code byte) int {
	switch code {
	case pushByOne:
		return 2
	case pushByTwo:
		return 3
	}
	return 1
}

// sizeBehind is how many bytes of a word come behind its head.
func sizeBehind(head []byte) int {
	switch code := head[0]; {
	case code <= pushLongest:
		return int(code)
	case code == pushByOne:
		return int(head[1])
	case code == pushByTwo:
		return int(head[1]) | int(head[2])<<byteBits
	}
	return 0
}

// isSmall: is it a push of one byte that the code itself tells?
func isSmall(code byte) bool { return code >= pushFirst && code <= pushLast }

func isPush(code byte) bool { return code <= pushByTwo || isSmall(code) }

// Push: b, and a word that pushes each (P7.1). Of more bytes than a word can
// have, the first ones: so no byte of a piece is ever read as a word.
func Push(b []byte, l ...[]byte) []byte {
	b = bytes.Clone(b)
	for _, piece := range l {
		piece = piece[:min(len(piece), math.MaxUint16)]
		b = append(b, headOf(len(piece))...)
		b = append(b, piece...)
	}
	return b
}

// headOf is what stands ahead of n bytes that are pushed.
func headOf(n int) []byte {
	switch {
	case n <= pushLongest:
		return []byte{byte(n)}
	case n <= math.MaxUint8:
		return []byte{pushByOne, byte(n)}
	}
	return []byte{pushByTwo, byte(n), byte(n >> byteBits)}
}

// True: is one of its bytes not 0 (P7.1)?
func True(b []byte) bool {
	for _, digit := range b {
		if digit != 0 {
			return true
		}
	}
	return false
}
