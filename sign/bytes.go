package sign

import (
	"byname/api"
	"byname/wide"
)

const (
	part = 32
	size = 2 * part
)

// Bytes: R's and S's, the highest first (P5.3).
func Bytes(s api.Sig) []byte {
	first, second := wide.Bytes(s.R), wide.Bytes(s.S)
	b := make([]byte, 0, size)
	b = append(b, first[:]...)
	return append(b, second[:]...)
}

// Parse: the signature of which these are the Bytes; ErrSign, if there aren't
// as many (P5.3).
func Parse(b []byte) (api.Sig, api.Errno) {
	if len(b) != size {
		return api.Sig{}, api.ErrSign
	}
	first, second := [part]byte(b[:part]), [part]byte(b[part:])
	return api.Sig{R: wide.From(first), S: wide.From(second)}, api.OK
}
