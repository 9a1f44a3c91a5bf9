package curve

import (
	"byname/api"
	"byname/field"
	"byname/wide"
)

// What the first byte says.
const (
	markNone = 0
	markEven = 2
	markOdd  = 3
)

const size = 33

// Bytes: of None one byte 0; of others whether Y is odd, and X (P4.4).
func Bytes(a api.Point) []byte {
	if a == none {
		return []byte{markNone}
	}
	mark := byte(markEven)
	if a.Y[0]%2 == 1 {
		mark = markOdd
	}
	x := wide.Bytes(a.X)
	return append([]byte{mark}, x[:]...)
}

// Parse: the point of which these are the Bytes; ErrPoint, if there is none
// (P4.4).
func Parse(b []byte) (api.Point, api.Errno) {
	if len(b) == 1 && b[0] == markNone {
		return none, api.OK
	}
	if len(b) != size || b[0] != markEven && b[0] != markOdd {
		return api.Point{}, api.ErrPoint
	}
	x := wide.From([size - 1]byte(b[1:]))
	r := field.P()
	y, e := r.Root(squareAt(x))
	if e != api.OK || !r.In(x) {
		return api.Point{}, api.ErrPoint
	}
	a := api.Point{X: x, Y: y}
	// Root tells the even one; as no Y is 0, the other one is odd.
	if b[0] == markOdd {
		a = Neg(a)
	}
	return a, api.OK
}
