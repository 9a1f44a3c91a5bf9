package wide_test

import (
	"math"
	"math/big"
	"math/rand"
	"testing"

	"byname/api"
	"byname/wide"
)

const top = math.MaxUint64

var (
	one   = big.NewInt(1)
	bound = new(big.Int).Lsh(one, 256)
	most  = api.Wide{top, top, top, top}
)

func toBig(a api.Wide) *big.Int {
	n := new(big.Int)
	for i := 3; i >= 0; i-- {
		n.Lsh(n, 64)
		n.Or(n, new(big.Int).SetUint64(a[i]))
	}
	return n
}

func fromBig(n *big.Int) api.Wide {
	var a api.Wide
	rest := new(big.Int).Mod(n, bound)
	word := new(big.Int).SetUint64(top)
	for i := range a {
		a[i] = new(big.Int).And(rest, word).Uint64()
		rest.Rsh(rest, 64)
	}
	return a
}

// samples are the edges of every word, numbers whose words are all ends, and
// some between.
func samples() []api.Wide {
	l := []api.Wide{}
	for _, e := range []uint{0, 1, 2, 31, 32, 63, 64, 65, 127, 128, 129, 191, 192, 193, 254, 255} {
		p := new(big.Int).Lsh(one, e)
		l = append(l, fromBig(p), fromBig(new(big.Int).Sub(p, one)), fromBig(new(big.Int).Add(p, one)))
	}
	ends := []uint64{0, 1, top, 1 << 63}
	for i := range 256 {
		l = append(l, api.Wide{ends[i&3], ends[i>>2&3], ends[i>>4&3], ends[i>>6&3]})
	}
	r := rand.New(rand.NewSource(2))
	for i := range 80 {
		a := api.Wide{r.Uint64(), r.Uint64(), r.Uint64(), r.Uint64()}
		l = append(l, wide.Right(a, i*4), a)
	}
	return l
}

func eachPair(t *testing.T, check func(t *testing.T, a, b api.Wide)) {
	l := samples()
	for _, a := range l {
		for _, b := range l {
			check(t, a, b)
		}
	}
}

func checkSums(t *testing.T, a, b api.Wide) {
	t.Helper()
	x, y := toBig(a), toBig(b)
	sum := new(big.Int).Add(x, y)
	if got, more := wide.Add(a, b); got != fromBig(sum) || more != (sum.Cmp(bound) >= 0) {
		t.Fatalf("Add %x %x: %x %v", a, b, got, more)
	}
	rest := new(big.Int).Sub(x, y)
	if got, less := wide.Sub(a, b); got != fromBig(rest) || less != (rest.Sign() < 0) {
		t.Fatalf("Sub %x %x: %x %v", a, b, got, less)
	}
	if got := wide.Less(a, b); got != (x.Cmp(y) < 0) {
		t.Fatalf("Less %x %x: %v", a, b, got)
	}
}

func checkProducts(t *testing.T, a, b api.Wide) {
	t.Helper()
	x, y := toBig(a), toBig(b)
	all := new(big.Int).Mul(x, y)
	low, high := wide.Mul(a, b)
	if low != fromBig(all) || high != fromBig(new(big.Int).Rsh(all, 256)) {
		t.Fatalf("Mul %x %x: %x %x", a, b, low, high)
	}
	times, left := wide.Div(a, b)
	if b == (api.Wide{}) {
		if times != (api.Wide{}) || left != a {
			t.Fatalf("Div %x by 0: %x %x", a, times, left)
		}
		return
	}
	q, r := new(big.Int).QuoRem(x, y, new(big.Int))
	if times != fromBig(q) || left != fromBig(r) {
		t.Fatalf("Div %x %x: %x %x", a, b, times, left)
	}
}

func checkMoves(t *testing.T, a api.Wide, n int) {
	t.Helper()
	left, right := a, a
	if n >= 1 {
		by := uint(min(n, 600))
		left = fromBig(new(big.Int).Lsh(toBig(a), by))
		right = fromBig(new(big.Int).Rsh(toBig(a), by))
	}
	if got := wide.Left(a, n); got != left {
		t.Fatalf("Left %x %d: %x, want %x", a, n, got, left)
	}
	if got := wide.Right(a, n); got != right {
		t.Fatalf("Right %x %d: %x, want %x", a, n, got, right)
	}
}

func checkBytes(t *testing.T, a api.Wide) {
	t.Helper()
	var want [32]byte
	toBig(a).FillBytes(want[:])
	if got := wide.Bytes(a); got != want {
		t.Fatalf("Bytes %x: %x", a, got)
	}
	if got := wide.From(want); got != a {
		t.Fatalf("From %x: %x", want, got)
	}
	if got := wide.Bits(a); got != toBig(a).BitLen() {
		t.Fatalf("Bits %x: %d", a, got)
	}
}

// P2.1: Add, Sub and Less of all pairs.
func TestSums(t *testing.T) { eachPair(t, checkSums) }

// P2.1: what the document tells, and the ends.
func TestSumsAtTheEnds(t *testing.T) {
	half := api.Wide{0, 0, 0, 1 << 63}
	nought := api.Wide{}
	if s, more := wide.Add(half, half); s != nought || !more {
		t.Error("2 to the power of 255, twice:", s, more)
	}
	if s, more := wide.Add(most, nought); s != most || more {
		t.Error("the greatest and 0:", s, more)
	}
	if s, more := wide.Add(most, wide.Of(1)); s != nought || !more {
		t.Error("the greatest and 1:", s, more)
	}
	if s, more := wide.Add(most, most); s != (api.Wide{top - 1, top, top, top}) || !more {
		t.Error("the greatest, twice:", s, more)
	}
	if d, less := wide.Sub(nought, wide.Of(1)); d != most || !less {
		t.Error("0 less 1:", d, less)
	}
	if d, less := wide.Sub(nought, most); d != wide.Of(1) || !less {
		t.Error("0 less the greatest:", d, less)
	}
	if d, less := wide.Sub(most, most); d != nought || less {
		t.Error("the greatest less itself:", d, less)
	}
	if wide.Less(nought, nought) || wide.Less(most, most) || !wide.Less(nought, most) || wide.Less(most, nought) {
		t.Error("Less at the ends")
	}
	if !wide.Less(api.Wide{9, 9, 9, 0}, api.Wide{0, 0, 0, 1}) || wide.Less(api.Wide{0, 0, 0, 1}, api.Wide{9, 9, 9, 0}) {
		t.Error("the highest word counts most")
	}
}

// P2.1: a number of 64 bits stands in the lowest word.
func TestOf(t *testing.T) {
	for _, n := range []uint64{0, 1, 255, 256, 1 << 32, 1 << 63, top} {
		if got := wide.Of(n); got != (api.Wide{n, 0, 0, 0}) {
			t.Errorf("Of %d: %x", n, got)
		}
	}
}

// P2.2: Mul and Div of all pairs, b 0 among them.
func TestProducts(t *testing.T) { eachPair(t, checkProducts) }

// P2.2: the ends.
func TestProductsAtTheEnds(t *testing.T) {
	nought := api.Wide{}
	if low, high := wide.Mul(most, most); low != wide.Of(1) || high != (api.Wide{top - 1, top, top, top}) {
		t.Error("the greatest by itself:", low, high)
	}
	if low, high := wide.Mul(most, wide.Of(1)); low != most || high != nought {
		t.Error("the greatest by 1:", low, high)
	}
	for _, a := range []api.Wide{nought, wide.Of(1), {1, 2, 3, 4}, most} {
		if times, left := wide.Div(a, nought); times != nought || left != a {
			t.Error(a, "by 0:", times, left)
		}
		if times, left := wide.Div(a, wide.Of(1)); times != a || left != nought {
			t.Error(a, "by 1:", times, left)
		}
		if low, high := wide.Mul(a, nought); low != nought || high != nought {
			t.Error(a, "times 0:", low, high)
		}
	}
	if times, left := wide.Div(most, most); times != wide.Of(1) || left != nought {
		t.Error("the greatest by itself:", times, left)
	}
	less := api.Wide{top - 1, top, top, top}
	if times, left := wide.Div(less, most); times != nought || left != less {
		t.Error("one less by the greatest:", times, left)
	}
	if times, left := wide.Div(most, less); times != wide.Of(1) || left != wide.Of(1) {
		t.Error("the greatest by one less:", times, left)
	}
}

// P2.3: every count from below 0 to beyond the bits, and the ends of int.
func TestMoves(t *testing.T) {
	for _, a := range samples() {
		for n := -2; n <= 520; n++ {
			checkMoves(t, a, n)
		}
		for _, n := range []int{math.MinInt, math.MinInt + 1, -256, -64, -63, 1 << 20, 1 << 32, 1<<32 + 1, 1 << 40, math.MaxInt - 1, math.MaxInt} {
			checkMoves(t, a, n)
		}
	}
}

// P2.3: 0 has no bits; powers of 2, and what is one less.
func TestBits(t *testing.T) {
	if n := wide.Bits(api.Wide{}); n != 0 {
		t.Error("of 0:", n)
	}
	if n := wide.Bits(most); n != 256 {
		t.Error("of the greatest:", n)
	}
	for e := range 256 {
		p := fromBig(new(big.Int).Lsh(one, uint(e)))
		if n := wide.Bits(p); n != e+1 {
			t.Errorf("2 to the power of %d: %d", e, n)
		}
		less, _ := wide.Sub(p, wide.Of(1))
		if n := wide.Bits(less); n != e {
			t.Errorf("one less than 2 to the power of %d: %d", e, n)
		}
	}
}

// P2.4: the highest byte first, and back.
func TestBytes(t *testing.T) {
	var rising [32]byte
	for i := range rising {
		rising[i] = byte(i + 1)
	}
	a := api.Wide{0x191A1B1C1D1E1F20, 0x1112131415161718, 0x090A0B0C0D0E0F10, 0x0102030405060708}
	if got := wide.From(rising); got != a {
		t.Errorf("From: %x", got)
	}
	if got := wide.Bytes(a); got != rising {
		t.Errorf("Bytes: %x", got)
	}
	for i := range 32 {
		var b [32]byte
		b[31-i] = 1
		if got := wide.From(b); got != wide.Left(wide.Of(1), 8*i) {
			t.Errorf("byte %d from behind: %x", i, got)
		}
	}
	for _, a := range samples() {
		checkBytes(t, a)
	}
}

func FuzzWide(f *testing.F) {
	f.Add(uint64(1), uint64(0), uint64(0), uint64(0), uint64(0), uint64(0), uint64(0), uint64(0), 0)
	f.Add(uint64(top), uint64(top), uint64(top), uint64(top), uint64(top), uint64(top), uint64(top), uint64(1<<63), 64)
	f.Fuzz(func(t *testing.T, a0, a1, a2, a3, b0, b1, b2, b3 uint64, n int) {
		a, b := api.Wide{a0, a1, a2, a3}, api.Wide{b0, b1, b2, b3}
		checkSums(t, a, b)
		checkProducts(t, a, b)
		checkProducts(t, a, wide.Right(b, n))
		checkMoves(t, a, n)
		checkMoves(t, a, n%300)
		checkBytes(t, a)
	})
}
