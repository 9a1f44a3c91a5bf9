package digest

import (
	"math/bits"

	"byname/api"
)

const (
	blockSize  = 64
	blockWords = 16
	lengthSize = 8
	lengthAt   = blockSize - lengthSize
	rounds     = 64
)

type block [blockSize]byte

// state is the eight numbers. It is a value: a Hasher is asked by ending a
// copy of it.
type state [8]uint32

// roundKeys are the first 32 bits behind the point of the cube roots of the
// first 64 primes.
var roundKeys = [rounds]uint32{
	0x428A2F98, 0x71374491, 0xB5C0FBCF, 0xE9B5DBA5, 0x3956C25B, 0x59F111F1, 0x923F82A4, 0xAB1C5ED5,
	0xD807AA98, 0x12835B01, 0x243185BE, 0x550C7DC3, 0x72BE5D74, 0x80DEB1FE, 0x9BDC06A7, 0xC19BF174,
	0xE49B69C1, 0xEFBE4786, 0x0FC19DC6, 0x240CA1CC, 0x2DE92C6F, 0x4A7484AA, 0x5CB0A9DC, 0x76F988DA,
	0x983E5152, 0xA831C66D, 0xB00327C8, 0xBF597FC7, 0xC6E00BF3, 0xD5A79147, 0x06CA6351, 0x14292967,
	0x27B70A85, 0x2E1B2138, 0x4D2C6DFC, 0x53380D13, 0x650A7354, 0x766A0ABB, 0x81C2C92E, 0x92722C85,
	0xA2BFE8A1, 0xA81A664B, 0xC24B8B70, 0xC76C51A3, 0xD192E819, 0xD6990624, 0xF40E3585, 0x106AA070,
	0x19A4C116, 0x1E376C08, 0x2748774C, 0x34B0BCB5, 0x391C0CB3, 0x4ED8AA4A, 0x5B9CCA4F, 0x682E6FF3,
	0x748F82EE, 0x78A5636F, 0x84C87814, 0x8CC70208, 0x90BEFFFA, 0xA4506CEB, 0xBEF9A3F7, 0xC67178F2,
}

// firstState is the first 32 bits behind the point of the square roots of the
// first eight primes.
func firstState() state {
	return state{
		0x6A09E667, 0xBB67AE85, 0x3C6EF372, 0xA54FF53A,
		0x510E527F, 0x9B05688C, 0x1F83D9AB, 0x5BE0CD19,
	}
}

// mixed is the state behind one more block. a to h bear the document's names.
func (s state) mixed(from block) state {
	w := schedule(from)
	a, b, c, d, e, f, g, h := s[0], s[1], s[2], s[3], s[4], s[5], s[6], s[7]
	for i := range rounds {
		t := h + turnE(e) + (e&f ^ ^e&g) + roundKeys[i] + w[i]
		u := turnA(a) + (a&b ^ a&c ^ b&c)
		a, b, c, d, e, f, g, h = t+u, a, b, c, d+t, e, f, g
	}
	return state{s[0] + a, s[1] + b, s[2] + c, s[3] + d, s[4] + e, s[5] + f, s[6] + g, s[7] + h}
}

// hash is the state as bytes, the highest byte of each number first.
func (s state) hash() api.Hash {
	var out api.Hash
	for i, x := range s {
		for j := range 4 {
			out[4*i+j] = byte(x >> (24 - 8*j))
		}
	}
	return out
}

// schedule stretches a block's sixteen numbers to one for each round.
func schedule(from block) [rounds]uint32 {
	var w [rounds]uint32
	for i, x := range from {
		w[i/4] = w[i/4]<<8 | uint32(x)
	}
	for i := blockWords; i < rounds; i++ {
		w[i] = w[i-16] + w[i-7] + spread15(w[i-15]) + spread2(w[i-2])
	}
	return w
}

func turned(x uint32, n int) uint32 { return bits.RotateLeft32(x, -n) }

func turnE(x uint32) uint32 { return turned(x, 6) ^ turned(x, 11) ^ turned(x, 25) }

func turnA(x uint32) uint32 { return turned(x, 2) ^ turned(x, 13) ^ turned(x, 22) }

func spread15(x uint32) uint32 { return turned(x, 7) ^ turned(x, 18) ^ x>>3 }

func spread2(x uint32) uint32 { return turned(x, 17) ^ turned(x, 19) ^ x>>10 }
