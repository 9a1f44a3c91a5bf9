package script

import (
	"bytes"
	"slices"

	"byname/api"
	"byname/curve"
	"byname/digest"
	"byname/sign"
)

// runner does words. No piece of its stack is ever written into, so that two
// of them may be the same memory.
type runner struct {
	hash  api.Hash
	stack [][]byte

	// Of each branch that hasn't ended, the innermost last: is it gone?
	branches []bool

	// How many words that are no pushes were passed in this script.
	passed int
}

// script does all words of one, each by the function that is handed in.
func (r *runner) script(b []byte, do func(code byte, pushed []byte) api.Errno) api.Errno {
	r.passed = 0
	for len(b) > 0 {
		code, pushed, size, e := Next(b)
		if e != api.OK {
			return e
		}
		if e := do(code, pushed); e != api.OK {
			return e
		}
		b = b[size:]
	}
	if len(r.branches) > 0 {
		return api.ErrCode
	}
	return api.OK
}

// pushAlone is a word of what is to open a lock: that hands pieces over, and
// does nothing else.
func (r *runner) pushAlone(code byte, pushed []byte) api.Errno {
	if !isPush(code) {
		return api.ErrCode
	}
	return r.word(code, pushed)
}

// word does one, or skips it (P7.3).
func (r *runner) word(code byte, pushed []byte) api.Errno {
	if e := r.count(code, pushed); e != api.OK {
		return e
	}
	if slices.Contains(r.branches, false) {
		return r.skip(code)
	}
	if len(r.stack) < needs(code) {
		return api.ErrStack
	}
	if e := r.do(code, pushed); e != api.OK {
		return e
	}
	if len(r.stack) > api.MaxStack {
		return api.ErrLimit
	}
	return api.OK
}

// count holds a word against the limits that those that are skipped have, too.
func (r *runner) count(code byte, pushed []byte) api.Errno {
	if len(pushed) > api.MaxPush {
		return api.ErrLimit
	}
	if isPush(code) {
		return api.OK
	}
	if r.passed == api.MaxOps {
		return api.ErrLimit
	}
	r.passed++
	return api.OK
}

// skip is what is still done of a word that is skipped: branches begin and end
// there, too, but none of them is gone.
func (r *runner) skip(code byte) api.Errno {
	switch code {
	case wordIf, wordUnless:
		r.begin(false)
	case wordElse:
		return r.turn()
	case wordEnd:
		return r.end()
	}
	return api.OK
}

// needs is how many pieces a word must find.
func needs(code byte) int {
	switch code {
	case wordIf, wordUnless, wordCheck, wordDrop, wordAgain, wordSize, wordSum, wordShort:
		return 1
	case wordDropTwo, wordOver, wordSwap, wordSame, wordCheckSame, wordSigned, wordCheckSigned:
		return 2
	}
	return 0
}

// do is a word that isn't skipped; the stack has what it needs.
func (r *runner) do(code byte, pushed []byte) api.Errno {
	if isPush(code) {
		r.push(pushed)
		return api.OK
	}
	switch code {
	case wordIf:
		r.begin(True(r.pop()))
	case wordUnless:
		r.begin(!True(r.pop()))
	case wordElse:
		return r.turn()
	case wordEnd:
		return r.end()
	case wordCheck:
		return check(r.pop())
	case wordFail:
		return api.ErrFalse
	case wordCheckSame:
		return check(r.popSame())
	case wordCheckSigned:
		return check(r.popSigned())
	default:
		return r.change(code)
	}
	return api.OK
}

// change is a word that changes the stack alone, or one that there isn't.
func (r *runner) change(code byte) api.Errno {
	switch code {
	case wordNothing:
	case wordDropTwo:
		r.pop()
		r.pop()
	case wordDrop:
		r.pop()
	case wordAgain:
		r.push(r.below(0))
	case wordOver:
		r.push(r.below(1))
	case wordSwap:
		x, y := r.pop(), r.pop()
		r.push(x)
		r.push(y)
	case wordSize:
		r.push(lengthBytes(r.below(0)))
	case wordSame:
		r.push(r.popSame())
	case wordSum:
		sum := digest.Sum(r.pop())
		r.push(sum[:])
	case wordShort:
		short := digest.Short(r.pop())
		r.push(short[:])
	case wordSigned:
		r.push(r.popSigned())
	default:
		return api.ErrCode
	}
	return api.OK
}

func (r *runner) push(b []byte) { r.stack = append(r.stack, b) }

func (r *runner) pop() []byte {
	x := r.below(0)
	r.stack = r.stack[:len(r.stack)-1]
	return x
}

// below is the piece that lies so many below the upmost.
func (r *runner) below(n int) []byte { return r.stack[len(r.stack)-1-n] }

func (r *runner) popSame() []byte {
	x, y := r.pop(), r.pop()
	return truth(bytes.Equal(x, y))
}

func (r *runner) popSigned() []byte {
	x, y := r.pop(), r.pop()
	point, noPoint := curve.Parse(x)
	signature, noSignature := sign.Parse(y)
	if noPoint != api.OK || noSignature != api.OK {
		return truth(false)
	}
	return truth(sign.Verify(point, r.hash, signature))
}

func (r *runner) begin(gone bool) { r.branches = append(r.branches, gone) }

func (r *runner) turn() api.Errno {
	innermost := len(r.branches) - 1
	if innermost < 0 {
		return api.ErrCode
	}
	r.branches[innermost] = !r.branches[innermost]
	return api.OK
}

func (r *runner) end() api.Errno {
	innermost := len(r.branches) - 1
	if innermost < 0 {
		return api.ErrCode
	}
	r.branches = r.branches[:innermost]
	return api.OK
}

func check(b []byte) api.Errno {
	if !True(b) {
		return api.ErrFalse
	}
	return api.OK
}

// truth is a piece that is True, if it holds.
func truth(holds bool) []byte {
	if holds {
		return []byte{1}
	}
	return nil
}

// lengthBytes is how long a piece is, in as many bytes as that needs, the
// lowest first.
func lengthBytes(b []byte) []byte {
	var l []byte
	for n := len(b); n > 0; n >>= byteBits {
		l = append(l, byte(n))
	}
	return l
}
