package work

import (
	"byname/api"
	"byname/wide"
)

const (
	byteBits = 8

	// M is the lowest bits of BITS, with the sign ahead of them; E is behind.
	mSize     = 3
	mBits     = mSize*byteBits - 1
	mGreatest = 1<<mBits - 1
	eFrom     = mSize * byteBits
)

// Expand: the TARGET of BITS (P12.1).
func Expand(bits uint32) (api.Wide, api.Errno) {
	m, up := parts(bits)
	// The easiest one is moved down to M, rather than M up to it: no bit that
	// counts is lost by that.
	if bits>>mBits&1 != 0 || wide.Less(wide.Right(easiest(), up*byteBits), m) {
		return api.Wide{}, api.ErrWork
	}
	t := moved(m, up)
	if t == (api.Wide{}) {
		return api.Wide{}, api.ErrWork
	}
	return t, api.OK
}

// easiest is the greatest TARGET.
func easiest() api.Wide { return moved(parts(api.Easiest)) }

// parts is M, and by how many bytes it is moved up.
func parts(bits uint32) (api.Wide, int) {
	return wide.Of(uint64(bits & mGreatest)), int(bits>>eFrom) - mSize
}

// moved is a, so many bytes up; or down, if that is below 0: one of the two
// moves does nothing.
func moved(a api.Wide, up int) api.Wide {
	return wide.Right(wide.Left(a, up*byteBits), -up*byteBits)
}

// Compact: a TARGET in BITS (P12.2).
func Compact(t api.Wide) uint32 {
	size := (wide.Bits(t) + byteBits - 1) / byteBits
	m := uint32(moved(t, mSize-size)[0])
	// A bit in the sign's place would be one.
	if m > mGreatest {
		m >>= byteBits
		size++
	}
	return m | uint32(size)<<eFrom
}
