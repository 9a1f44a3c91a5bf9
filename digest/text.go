package digest

import "byname/api"

const digits = "0123456789abcdef"

// Text: a hash in digits, its last byte first (P1.3).
func Text(h api.Hash) string {
	out := make([]byte, 0, 2*api.HashSize)
	for i := range api.HashSize {
		x := h[api.HashSize-1-i]
		out = append(out, digits[x>>4], digits[x&15])
	}
	return string(out)
}

// Parse: the hash of which s is the Text (P1.3). Only what Text writes is
// read, so that a hash has one text.
func Parse(s string) (api.Hash, bool) {
	if len(s) != 2*api.HashSize {
		return api.Hash{}, false
	}
	var out api.Hash
	for i := range api.HashSize {
		high, highOK := digit(s[2*i])
		low, lowOK := digit(s[2*i+1])
		if !highOK || !lowOK {
			return api.Hash{}, false
		}
		out[api.HashSize-1-i] = high<<4 | low
	}
	return out, true
}

func digit(c byte) (byte, bool) {
	switch {
	case c >= '0' && c <= '9':
		return c - '0', true
	case c >= 'a' && c <= 'f':
		return c - 'a' + 10, true
	}
	return 0, false
}
