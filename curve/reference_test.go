package curve_test

import (
	"math/big"
	"math/rand"

	"byname/api"
	"byname/curve"
	"byname/wide"
)

const (
	digitsP = "FFFFFFFFFFFFFFFFFFFFFFFFFFFFFFFFFFFFFFFFFFFFFFFFFFFFFFFEFFFFFC2F"
	digitsN = "FFFFFFFFFFFFFFFFFFFFFFFFFFFFFFFEBAAEDCE6AF48A03BBFD25E8CD0364141"
	digitsX = "79BE667EF9DCBBAC55A06295CE870B07029BFCDB2DCE28D959F2815B16F81798"
	digitsY = "483ADA7726A3C4655DA4FBFC0E1108A8FD17B448A68554199C47D08FFB10D4B8"
)

var (
	none   = api.Point{None: true}
	nought = api.Wide{}
	one    = wide.Of(1)
	primeP = number(digitsP)
	primeN = number(digitsN)
)

func number(digits string) *big.Int {
	n, ok := new(big.Int).SetString(digits, 16)
	if !ok {
		panic(digits)
	}
	return n
}

func toBig(a api.Wide) *big.Int {
	b := wide.Bytes(a)
	return new(big.Int).SetBytes(b[:])
}

// fromBig is of numbers from 0 on, below 2 to the power of 256.
func fromBig(n *big.Int) api.Wide {
	var b [32]byte
	n.FillBytes(b[:])
	return wide.From(b)
}

func offset(n *big.Int, by int64) api.Wide {
	return fromBig(new(big.Int).Add(n, big.NewInt(by)))
}

func modP(n *big.Int) *big.Int { return new(big.Int).Mod(n, primeP) }

func point(x, y string) api.Point {
	return api.Point{X: fromBig(number(x)), Y: fromBig(number(y))}
}

// onReference is the chapter's words, apart from the program's own numbers.
func onReference(a api.Point) bool {
	x, y := toBig(a.X), toBig(a.Y)
	if a.None {
		return x.Sign() == 0 && y.Sign() == 0
	}
	cube := new(big.Int).Exp(x, big.NewInt(3), nil)
	rest := new(big.Int).Sub(new(big.Int).Mul(y, y), cube.Add(cube, big.NewInt(7)))
	return x.Cmp(primeP) < 0 && y.Cmp(primeP) < 0 && modP(rest).Sign() == 0
}

// addReference is of points of the curve.
func addReference(a, b api.Point) api.Point {
	if a.None {
		return b
	}
	if b.None {
		return a
	}
	ax, ay, bx, by := toBig(a.X), toBig(a.Y), toBig(b.X), toBig(b.Y)
	up, along := new(big.Int).Sub(by, ay), new(big.Int).Sub(bx, ax)
	if along.Sign() == 0 {
		if modP(new(big.Int).Add(ay, by)).Sign() == 0 {
			return none
		}
		up.Mul(ax, ax).Mul(up, big.NewInt(3))
		along.Lsh(ay, 1)
	}
	s := up.Mul(up, new(big.Int).ModInverse(modP(along), primeP))
	x := new(big.Int).Mul(s, s)
	x = modP(x.Sub(x, ax).Sub(x, bx))
	y := new(big.Int).Sub(ax, x)
	y = modP(y.Mul(y, s).Sub(y, ay))
	return api.Point{X: fromBig(x), Y: fromBig(y)}
}

func timesReference(k api.Wide, a api.Point) api.Point {
	n, sum := toBig(k), none
	for i := range n.BitLen() {
		if n.Bit(i) == 1 {
			sum = addReference(sum, a)
		}
		a = addReference(a, a)
	}
	return sum
}

func bothReference(k, m api.Wide, a api.Point) api.Point {
	return addReference(timesReference(k, point(digitsX, digitsY)), timesReference(m, a))
}

// atX is the point with that X and an even Y, if there is one.
func atX(x *big.Int) (api.Point, bool) {
	square := new(big.Int).Exp(x, big.NewInt(3), primeP)
	square = modP(square.Add(square, big.NewInt(7)))
	y := new(big.Int).ModSqrt(square, primeP)
	if y == nil {
		return api.Point{}, false
	}
	if y.Bit(0) == 1 {
		y.Sub(primeP, y)
	}
	return api.Point{X: fromBig(x), Y: fromBig(y)}, true
}

// atY is a point with that Y, if there is one. P is 7 modulo 9: so the power
// is a cube root, if any number is.
func atY(y int64) (api.Point, bool) {
	cube := modP(big.NewInt(y*y - 7))
	power := new(big.Int).Add(primeP, big.NewInt(2))
	x := new(big.Int).Exp(cube, power.Div(power, big.NewInt(9)), primeP)
	if new(big.Int).Exp(x, big.NewInt(3), primeP).Cmp(cube) != 0 {
		return api.Point{}, false
	}
	return api.Point{X: fromBig(x), Y: wide.Of(uint64(y))}, true
}

// level is the other point with the same Y: its X is multiplied with a number
// whose cube is 1.
func level(a api.Point) api.Point {
	third := new(big.Int).Sub(primeP, big.NewInt(1))
	turn := third.Exp(big.NewInt(3), third.Div(third, big.NewInt(3)), primeP)
	a.X = fromBig(modP(turn.Mul(turn, toBig(a.X))))
	return a
}

func mixed(r *rand.Rand) api.Wide {
	return api.Wide{r.Uint64(), r.Uint64(), r.Uint64(), r.Uint64()}
}

// edgePoints are None, the first and the last multiples of Base, and those
// with the least and the greatest X and Y.
func edgePoints() []api.Point {
	g := point(digitsX, digitsY)
	l := []api.Point{none}
	for k, a := 1, g; k <= 5; k, a = k+1, addReference(a, g) {
		l = append(l, a, curve.Neg(a))
	}
	l = append(l, level(g), level(level(g)), curve.Neg(level(g)))
	for n := int64(0); n < 12; n++ {
		if a, ok := atX(big.NewInt(n)); ok {
			l = append(l, a, curve.Neg(a))
		}
		if a, ok := atX(new(big.Int).Sub(primeP, big.NewInt(n+1))); ok {
			l = append(l, a, curve.Neg(a))
		}
		if a, ok := atY(n); ok {
			l = append(l, a, curve.Neg(a), level(a))
		}
	}
	return l
}

func mixedPoints(count int) []api.Point {
	r := rand.New(rand.NewSource(4))
	l := []api.Point{}
	for len(l) < count {
		if a, ok := atX(modP(toBig(mixed(r)))); ok {
			l = append(l, a, curve.Neg(a))
		}
	}
	return l
}

func points() []api.Point { return append(edgePoints(), mixedPoints(24)...) }

// edgeNumbers are those at both ends, about N, its half and P, and about
// powers of 2.
func edgeNumbers() []api.Wide {
	l := []api.Wide{}
	half := new(big.Int).Rsh(primeN, 1)
	for d := int64(-3); d <= 3; d++ {
		l = append(l, offset(primeN, d), offset(half, d), offset(primeP, d))
	}
	for n := range uint64(10) {
		less, _ := wide.Sub(nought, wide.Of(n))
		l = append(l, wide.Of(n), less)
	}
	for _, n := range []int{63, 64, 65, 128, 192, 255} {
		power := wide.Left(one, n)
		less, _ := wide.Sub(power, one)
		l = append(l, power, less)
	}
	return l
}

// strays are not on the curve: beyond P, beside a point, None with numbers.
func strays() []api.Point {
	g := point(digitsX, digitsY)
	top := offset(new(big.Int).Lsh(big.NewInt(1), 255), 0)
	p := fromBig(primeP)
	l := []api.Point{
		{}, {X: g.X}, {Y: g.Y}, {X: g.X, Y: g.X}, {X: g.Y, Y: g.X}, {X: g.X, Y: g.Y, None: true},
		{X: one, None: true}, {Y: one, None: true}, {X: p, Y: p}, {X: p, Y: p, None: true}, {X: top, Y: top},
		{X: offset(toBig(g.X), 1), Y: g.Y}, {X: g.X, Y: offset(toBig(g.Y), 1)}, {X: g.X, Y: offset(toBig(g.Y), -1)},
		{X: p, Y: g.Y}, {X: g.X, Y: p}, {X: one}, {Y: one}, {X: one, Y: one},
	}
	for n := int64(0); n < 20; n++ {
		if a, ok := atX(big.NewInt(n)); ok {
			a.X = offset(primeP, n)
			l = append(l, a)
		}
		if a, ok := atY(n); ok {
			a.Y = offset(primeP, n)
			l = append(l, a)
		}
	}
	r := rand.New(rand.NewSource(5))
	for range 10 {
		l = append(l, api.Point{X: mixed(r), Y: mixed(r)}, api.Point{X: mixed(r), Y: mixed(r), None: true})
	}
	return l
}
