package coin

import (
	"byname/api"
	"byname/piece"
)

const (
	atSize    = 4
	valueSize = 8

	maxHeight = 1000000000
)

// RefBytes: a reference as bytes (P9.2).
func RefBytes(r api.Ref) []byte { return piece.Fixed(r.Id[:], uint64(r.At), atSize) }

// RefRead: the one that stands next (P9.2).
func RefRead(r *piece.Reader) api.Ref {
	var ref api.Ref
	copy(ref.Id[:], r.Raw(api.HashSize))
	ref.At = uint32(r.Fixed(atSize))
	if r.Err() != api.OK {
		return api.Ref{}
	}
	return ref
}

// OutBytes: an output as bytes (P9.2).
func OutBytes(o api.Out) []byte {
	return piece.Text(piece.Fixed(nil, uint64(o.Value), valueSize), o.Lock)
}

// OutRead: the one that stands next, with any Value (P9.2).
func OutRead(r *piece.Reader) api.Out {
	o := api.Out{Value: valueRead(r), Lock: lockRead(r)}
	if r.Err() != api.OK {
		return api.Out{}
	}
	return o
}

func valueRead(r *piece.Reader) int64 { return int64(r.Fixed(valueSize)) }

func lockRead(r *piece.Reader) []byte { return r.Text(api.MaxScript) }

// Bytes: a coin as bytes (P9.3).
func Bytes(c api.Coin) []byte {
	return append(piece.Count(nil, stampOf(c)), OutBytes(c.Out)...)
}

// stampOf is one number for a Height, and whether the coin is Base.
func stampOf(c api.Coin) uint64 {
	stamp := uint64(c.Height) * 2
	if c.Base {
		stamp++
	}
	return stamp
}

// Parse: the coin of bytes (P9.3). A Reader that is BAD goes on with noughts,
// which are MONEY: so what was wrong first is what is told.
func Parse(b []byte) (api.Coin, api.Errno) {
	r := piece.New(b)
	stamp := r.Count(2*maxHeight + 1)
	value := valueRead(r)
	if !Money(value) {
		return api.Coin{}, api.ErrForm
	}
	lock := lockRead(r)
	if r.Err() != api.OK {
		return api.Coin{}, r.Err()
	}
	if r.Left() > 0 {
		return api.Coin{}, api.ErrForm
	}
	out := api.Out{Value: value, Lock: lock}
	return api.Coin{Out: out, Height: int64(stamp / 2), Base: stamp%2 == 1}, api.OK
}
