package sign_test

import (
	"math/big"
	"math/rand"

	"byname/api"
	"byname/curve"
	"byname/wide"
)

const (
	digitsP = "FFFFFFFFFFFFFFFFFFFFFFFFFFFFFFFFFFFFFFFFFFFFFFFFFFFFFFFEFFFFFC2F"
	digitsN = "FFFFFFFFFFFFFFFFFFFFFFFFFFFFFFFEBAAEDCE6AF48A03BBFD25E8CD0364141"
)

var (
	none   = api.Point{None: true}
	nought = api.Wide{}
	one    = wide.Of(1)
	primeP = number(digitsP)
	primeN = number(digitsN)
	half   = new(big.Int).Rsh(primeN, 1)
	bound  = new(big.Int).Lsh(big.NewInt(1), 256)
)

func number(digits string) *big.Int {
	n, ok := new(big.Int).SetString(digits, 16)
	if !ok {
		panic(digits)
	}
	return n
}

func toBig(a api.Wide) *big.Int {
	b := wide.Bytes(a)
	return new(big.Int).SetBytes(b[:])
}

// fromBig is of numbers from 0 on, below 2 to the power of 256.
func fromBig(n *big.Int) api.Wide {
	var b [32]byte
	n.FillBytes(b[:])
	return wide.From(b)
}

func hashOf(n *big.Int) api.Hash {
	var h api.Hash
	n.FillBytes(h[:])
	return h
}

func offset(n *big.Int, by int64) api.Wide {
	return fromBig(new(big.Int).Add(n, big.NewInt(by)))
}

func modN(n *big.Int) *big.Int { return new(big.Int).Mod(n, primeN) }

func timesN(a, b *big.Int) *big.Int { return modN(new(big.Int).Mul(a, b)) }

func byN(a, b *big.Int) *big.Int { return timesN(a, new(big.Int).ModInverse(b, primeN)) }

func isSecret(a api.Wide) bool { return a != nought && toBig(a).Cmp(primeN) < 0 }

// signReference is the chapter's words, with numbers of the library's.
func signReference(secret api.Wide, h api.Hash, k api.Wide) (api.Sig, api.Errno) {
	if !isSecret(secret) || !isSecret(k) {
		return api.Sig{}, 51
	}
	r := modN(toBig(curve.Times(k, curve.Base()).X))
	z := new(big.Int).SetBytes(h[:])
	s := byN(z.Add(z, timesN(r, toBig(secret))), toBig(k))
	if s.Cmp(half) > 0 {
		s.Sub(primeN, s)
	}
	if r.Sign() == 0 || s.Sign() == 0 {
		return api.Sig{}, 51
	}
	return api.Sig{R: fromBig(r), S: fromBig(s)}, 0
}

func verifyReference(a api.Point, h api.Hash, s api.Sig) bool {
	if !isSecret(s.R) || !isSecret(s.S) || toBig(s.S).Cmp(half) > 0 || a.None || !curve.On(a) {
		return false
	}
	z := new(big.Int).SetBytes(h[:])
	k, m := fromBig(byN(z, toBig(s.S))), fromBig(byN(toBig(s.R), toBig(s.S)))
	sum := curve.Add(curve.Times(k, curve.Base()), curve.Times(m, a))
	return !sum.None && fromBig(modN(toBig(sum.X))) == s.R
}

// forged is a hash and a signature of it that hold for a, whose secret isn't
// needed: the base k times and a m times are taken first, the hash last.
func forged(k, m *big.Int, a api.Point) (api.Hash, api.Sig) {
	r := modN(toBig(curve.Both(fromBig(modN(k)), fromBig(modN(m)), a).X))
	s := byN(r, m)
	z := timesN(k, s)
	if s.Cmp(half) > 0 {
		// The sum's Neg has the same X, and the hash stays.
		s.Sub(primeN, s)
	}
	return hashOf(z), api.Sig{R: fromBig(r), S: fromBig(s)}
}

// recovered is the point for which R and S, as they are, hold of that hash,
// if b is the sum that has R as its X.
func recovered(b api.Point, z, r, s *big.Int) api.Point {
	k := new(big.Int).Sub(primeN, byN(z, r))
	return curve.Both(fromBig(modN(k)), fromBig(byN(s, r)), b)
}

// atX is the point with that X and an even Y, if there is one.
func atX(x *big.Int) (api.Point, bool) {
	b := wide.Bytes(fromBig(x))
	a, e := curve.Parse(append([]byte{2}, b[:]...))
	return a, e == api.OK
}

// firstAt is the point with the least X from there on.
func firstAt(x *big.Int) api.Point {
	for {
		if a, ok := atX(x); ok {
			return a
		}
		x = new(big.Int).Add(x, big.NewInt(1))
	}
}

func mixed(r *rand.Rand) api.Wide {
	return api.Wide{r.Uint64(), r.Uint64(), r.Uint64(), r.Uint64()}
}

func mixedSecret(r *rand.Rand) api.Wide {
	for {
		if a := mixed(r); isSecret(a) {
			return a
		}
	}
}

// edgeSecrets are those at both ends and about the half.
func edgeSecrets() []api.Wide {
	l := []api.Wide{one, wide.Of(2), wide.Of(3), wide.Left(one, 64), wide.Left(one, 255)}
	for d := int64(-1); d <= 2; d++ {
		l = append(l, offset(half, d))
	}
	return append(l, offset(primeN, -3), offset(primeN, -2), offset(primeN, -1))
}

// noSecrets are 0, and numbers from N on.
func noSecrets() []api.Wide {
	l := []api.Wide{nought, fromBig(primeP), offset(bound, -1)}
	for d := int64(0); d <= 3; d++ {
		l = append(l, offset(primeN, d))
	}
	return append(l, offset(primeP, -1), offset(primeP, 1), offset(bound, -2))
}

// edgeHashes are numbers at both ends, about N, its half, and P.
func edgeHashes() []api.Hash {
	l := []api.Hash{}
	for _, n := range []*big.Int{big.NewInt(1), half, primeN, primeP, new(big.Int).Sub(bound, big.NewInt(2))} {
		for d := int64(-1); d <= 1; d++ {
			l = append(l, hashOf(new(big.Int).Add(n, big.NewInt(d))))
		}
	}
	return l
}
