package field_test

import (
	"math"
	"math/big"
	"math/rand"
	"testing"

	"byname/api"
	"byname/field"
	"byname/wide"
)

const (
	top     = math.MaxUint64
	digitsP = "FFFFFFFFFFFFFFFFFFFFFFFFFFFFFFFFFFFFFFFFFFFFFFFFFFFFFFFEFFFFFC2F"
	digitsN = "FFFFFFFFFFFFFFFFFFFFFFFFFFFFFFFEBAAEDCE6AF48A03BBFD25E8CD0364141"
)

var (
	nought = api.Wide{}
	most   = api.Wide{top, top, top, top}
	bound  = new(big.Int).Lsh(big.NewInt(1), 256)
)

// ring is one of the two, beside its prime as the document writes it.
type ring struct {
	name string
	*field.Ring
	prime *big.Int
}

func rings() []ring {
	p, _ := new(big.Int).SetString(digitsP, 16)
	n, _ := new(big.Int).SetString(digitsN, 16)
	return []ring{{"P", field.P(), p}, {"N", field.N(), n}}
}

func toBig(a api.Wide) *big.Int {
	b := wide.Bytes(a)
	return new(big.Int).SetBytes(b[:])
}

// fromBig is of numbers from 0 on, below 2 to the power of 256.
func fromBig(n *big.Int) api.Wide {
	var b [32]byte
	n.FillBytes(b[:])
	return wide.From(b)
}

func (r ring) mod(n *big.Int) api.Wide { return fromBig(new(big.Int).Mod(n, r.prime)) }

// offset is the prime and so much.
func (r ring) offset(n int64) api.Wide {
	return fromBig(new(big.Int).Add(r.prime, big.NewInt(n)))
}

// edges are numbers at both ends, about the prime, its half, and what lies
// between it and 2 to the power of 256.
func (r ring) edges() []api.Wide {
	l := []api.Wide{}
	half := new(big.Int).Rsh(r.prime, 1)
	gap := new(big.Int).Sub(bound, r.prime)
	for d := int64(-3); d <= 3; d++ {
		by := big.NewInt(d)
		l = append(l, r.offset(d), fromBig(new(big.Int).Add(half, by)), fromBig(new(big.Int).Add(gap, by)))
	}
	for n := range uint64(10) {
		less, _ := wide.Sub(most, wide.Of(n))
		l = append(l, wide.Of(n), less)
	}
	for _, n := range []int{31, 32, 33, 63, 64, 127, 128, 129, 191, 192, 254, 255} {
		power := wide.Left(wide.Of(1), n)
		less, _ := wide.Sub(power, wide.Of(1))
		l = append(l, power, less)
	}
	return l
}

func (r ring) samples() []api.Wide {
	l := r.edges()
	mixed := rand.New(rand.NewSource(3))
	for i := range 60 {
		a := api.Wide{mixed.Uint64(), mixed.Uint64(), mixed.Uint64(), mixed.Uint64()}
		l = append(l, a, wide.Right(a, i*4))
	}
	return l
}

func (r ring) checkSums(t *testing.T, a, b api.Wide) {
	t.Helper()
	x, y := toBig(a), toBig(b)
	if got, want := r.Add(a, b), r.mod(new(big.Int).Add(x, y)); got != want {
		t.Fatalf("%s: Add %x %x: %x, want %x", r.name, a, b, got, want)
	}
	if got, want := r.Sub(a, b), r.mod(new(big.Int).Sub(x, y)); got != want {
		t.Fatalf("%s: Sub %x %x: %x, want %x", r.name, a, b, got, want)
	}
	if got, want := r.Mul(a, b), r.mod(new(big.Int).Mul(x, y)); got != want {
		t.Fatalf("%s: Mul %x %x: %x, want %x", r.name, a, b, got, want)
	}
	all := new(big.Int).Add(x, new(big.Int).Lsh(y, 256))
	if got, want := r.Fold(a, b), r.mod(all); got != want {
		t.Fatalf("%s: Fold %x %x: %x, want %x", r.name, a, b, got, want)
	}
	if got, want := r.In(a), x.Cmp(r.prime) < 0; got != want {
		t.Fatalf("%s: In %x: %v", r.name, a, got)
	}
}

func (r ring) checkPow(t *testing.T, a, n api.Wide) {
	t.Helper()
	want := fromBig(new(big.Int).Exp(toBig(a), toBig(n), r.prime))
	if got := r.Pow(a, n); got != want {
		t.Fatalf("%s: Pow %x %x: %x, want %x", r.name, a, n, got, want)
	}
}

func (r ring) checkInv(t *testing.T, a api.Wide) {
	t.Helper()
	want, fault := nought, api.ErrField
	if x := new(big.Int).ModInverse(toBig(a), r.prime); x != nil {
		want, fault = fromBig(x), api.OK
	}
	if got, e := r.Inv(a); got != want || e != fault {
		t.Fatalf("%s: Inv %x: %x %d, want %x %d", r.name, a, got, e, want, fault)
	}
}

func (r ring) checkRoot(t *testing.T, a api.Wide) {
	t.Helper()
	want, fault := nought, api.ErrField
	reduced := new(big.Int).Mod(toBig(a), r.prime)
	if x := new(big.Int).ModSqrt(reduced, r.prime); x != nil && r.name == "P" {
		if x.Bit(0) == 1 {
			x.Sub(r.prime, x)
		}
		want, fault = fromBig(x), api.OK
	}
	if got, e := r.Root(a); got != want || e != fault {
		t.Fatalf("%s: Root %x: %x %d, want %x %d", r.name, a, got, e, want, fault)
	}
}

// Types, P3.1: the primes' digits, and that P is as much below 2 to the power
// of 256 as the document says.
func TestModulus(t *testing.T) {
	for _, r := range rings() {
		if got := r.Modulus(); got != fromBig(r.prime) {
			t.Errorf("%s: %x", r.name, got)
		}
		if !toBig(r.Modulus()).ProbablyPrime(20) {
			t.Errorf("%s is no prime", r.name)
		}
	}
	if rest, more := wide.Add(field.P().Modulus(), wide.Of(4294968273)); rest != nought || !more {
		t.Errorf("P and 4294968273: %x %v", rest, more)
	}
}

// What is answered is new memory: a ring that is written over harms no other.
func TestRingsAreApart(t *testing.T) {
	p, n := field.P(), field.N()
	*p = *n
	for _, r := range rings() {
		if got := r.Modulus(); got != fromBig(r.prime) {
			t.Errorf("%s: %x", r.name, got)
		}
	}
}

// P3.1: In, from just below to the greatest.
func TestIn(t *testing.T) {
	for _, r := range rings() {
		for _, a := range []api.Wide{nought, wide.Of(1), {top, top, top, top >> 1}, {top, 0, top - 1, top}, r.offset(-2), r.offset(-1)} {
			if !r.In(a) {
				t.Errorf("%s: %x isn't in", r.name, a)
			}
		}
		for _, a := range []api.Wide{r.offset(0), r.offset(1), most} {
			if r.In(a) {
				t.Errorf("%s: %x is in", r.name, a)
			}
		}
	}
	if !field.P().In(field.N().Modulus()) || field.N().In(field.P().Modulus()) {
		t.Error("N is below P")
	}
}

// P3.1: Add, Sub, Mul and Fold of all pairs, those beyond the modulus too.
func TestSums(t *testing.T) {
	for _, r := range rings() {
		l := r.samples()
		for _, a := range l {
			for _, b := range l {
				r.checkSums(t, a, b)
			}
		}
	}
}

// P3.1: the ends.
func TestSumsAtTheEnds(t *testing.T) {
	one, two := wide.Of(1), wide.Of(2)
	for _, r := range rings() {
		m, last := r.Modulus(), r.offset(-1)
		gap, _ := wide.Sub(nought, m)
		less, _ := wide.Sub(gap, one)
		for i, c := range []struct{ got, want api.Wide }{
			{r.Add(last, one), nought}, {r.Add(m, nought), nought}, {r.Add(m, m), nought},
			{r.Add(last, last), r.offset(-2)}, {r.Add(most, nought), less}, {r.Add(most, most), r.Mul(less, two)},
			{r.Sub(nought, one), last}, {r.Sub(one, last), two}, {r.Sub(m, m), nought}, {r.Sub(nought, m), nought},
			{r.Sub(m, one), last}, {r.Sub(most, most), nought}, {r.Sub(nought, r.offset(1)), last},
			{r.Mul(last, last), one}, {r.Mul(m, most), nought}, {r.Mul(most, one), less}, {r.Mul(nought, nought), nought},
			{r.Fold(nought, nought), nought}, {r.Fold(m, nought), nought}, {r.Fold(nought, m), nought}, {r.Fold(m, m), nought},
			{r.Fold(last, nought), last}, {r.Fold(most, nought), less}, {r.Fold(nought, one), gap}, {r.Fold(most, one), r.Add(less, gap)},
		} {
			if c.got != c.want {
				t.Errorf("%s: %d: %x, want %x", r.name, i, c.got, c.want)
			}
		}
		// All 512 bits: one less than 2 to the power of 512.
		if got, want := r.Fold(most, most), r.mod(new(big.Int).Sub(new(big.Int).Mul(bound, bound), big.NewInt(1))); got != want {
			t.Errorf("%s: Fold of the greatest: %x, want %x", r.name, got, want)
		}
	}
}

// P3.1: powers of all edges, to all of them.
func TestPow(t *testing.T) {
	for _, r := range rings() {
		l := r.edges()
		for _, a := range l {
			for _, n := range l {
				r.checkPow(t, a, n)
			}
		}
	}
}

// P3.1: 1, if n is 0, even of 0; n isn't meant modulo anything.
func TestPowAtTheEnds(t *testing.T) {
	one := wide.Of(1)
	for _, r := range rings() {
		m := r.Modulus()
		for _, a := range []api.Wide{nought, one, wide.Of(7), r.offset(-1), m, r.offset(1), most} {
			if got := r.Pow(a, nought); got != one {
				t.Errorf("%s: %x to the power of 0: %x", r.name, a, got)
			}
			if got, want := r.Pow(a, one), r.Fold(a, nought); got != want {
				t.Errorf("%s: %x to the power of 1: %x", r.name, a, got)
			}
			if got, want := r.Pow(a, m), r.Fold(a, nought); got != want {
				t.Errorf("%s: %x to the power of the prime: %x", r.name, a, got)
			}
		}
		for _, n := range []api.Wide{one, r.offset(-1), m, most} {
			if r.Pow(nought, n) != nought || r.Pow(m, n) != nought {
				t.Errorf("%s: 0 to the power of %x", r.name, n)
			}
		}
		if got := r.Pow(wide.Of(3), wide.Of(5)); got != wide.Of(243) {
			t.Errorf("%s: 3 to the power of 5: %x", r.name, got)
		}
		if got := r.Pow(wide.Of(2), wide.Of(255)); got != wide.Left(one, 255) {
			t.Errorf("%s: 2 to the power of 255: %x", r.name, got)
		}
	}
}

// P3.2: what is multiplied with its Inv is 1.
func TestInv(t *testing.T) {
	for _, r := range rings() {
		for _, a := range r.samples() {
			r.checkInv(t, a)
			if x, e := r.Inv(a); e == api.OK && (r.Mul(x, a) != wide.Of(1) || !r.In(x)) {
				t.Errorf("%s: Inv %x: %x", r.name, a, x)
			}
		}
	}
}

// P3.2, Errors: what the document tells, and the ends.
func TestInvAtTheEnds(t *testing.T) {
	for _, r := range rings() {
		for _, a := range []api.Wide{nought, r.Modulus()} {
			if x, e := r.Inv(a); x != nought || e != api.ErrField {
				t.Errorf("%s: Inv %x: %x %d", r.name, a, x, e)
			}
		}
		for _, a := range []api.Wide{wide.Of(1), r.offset(-1)} {
			if x, e := r.Inv(a); x != a || e != api.OK {
				t.Errorf("%s: Inv %x: %x %d", r.name, a, x, e)
			}
		}
		if x, e := r.Inv(r.offset(1)); x != wide.Of(1) || e != api.OK {
			t.Errorf("%s: Inv of the prime and 1: %x %d", r.name, x, e)
		}
		half := new(big.Int).Add(r.prime, big.NewInt(1))
		half.Rsh(half, 1)
		if x, e := r.Inv(wide.Of(2)); x != fromBig(half) || e != api.OK {
			t.Errorf("%s: Inv 2: %x %d", r.name, x, e)
		}
	}
}

// P3.2: of each number and of its square, in both rings; N has no roots.
func TestRoot(t *testing.T) {
	for _, r := range rings() {
		for _, a := range r.samples() {
			r.checkRoot(t, a)
			r.checkRoot(t, r.Mul(a, a))
			r.checkRoot(t, r.Sub(nought, r.Mul(a, a)))
		}
	}
}

// P3.2, Errors: of P the even one, whichever was squared; none of what is no
// square; of N none at all, not even of 0 and 1.
func TestRootAtTheEnds(t *testing.T) {
	p, n := field.P(), field.N()
	for k := range uint64(50) {
		a := wide.Of(k)
		even := a
		if k%2 == 1 {
			even = p.Sub(nought, a)
		}
		if x, e := p.Root(wide.Of(k * k)); x != even || e != api.OK || x[0]%2 != 0 {
			t.Errorf("P: Root %d: %x %d", k*k, x, e)
		}
		if k > 0 {
			if x, e := p.Root(p.Sub(nought, wide.Of(k*k))); x != nought || e != api.ErrField {
				t.Errorf("P: Root of 0 less %d: %x %d", k*k, x, e)
			}
		}
		if x, e := n.Root(wide.Of(k * k)); x != nought || e != api.ErrField {
			t.Errorf("N: Root %d: %x %d", k*k, x, e)
		}
	}
	m := p.Modulus()
	if x, e := p.Root(m); x != nought || e != api.OK {
		t.Errorf("P: Root of the prime: %x %d", x, e)
	}
	next, _ := wide.Add(m, wide.Of(4))
	if x, e := p.Root(next); x != wide.Of(2) || e != api.OK {
		t.Errorf("P: Root of the prime and 4: %x %d", x, e)
	}
	if x, e := n.Root(n.Modulus()); x != nought || e != api.ErrField {
		t.Errorf("N: Root of the prime: %x %d", x, e)
	}
}

func FuzzField(f *testing.F) {
	f.Add(uint64(1), uint64(0), uint64(0), uint64(0), uint64(0), uint64(0), uint64(0), uint64(0))
	f.Add(uint64(top), uint64(top), uint64(top), uint64(top), uint64(0xFFFFFFFEFFFFFC2F), uint64(top), uint64(top), uint64(top))
	f.Fuzz(func(t *testing.T, a0, a1, a2, a3, b0, b1, b2, b3 uint64) {
		a, b := api.Wide{a0, a1, a2, a3}, api.Wide{b0, b1, b2, b3}
		for _, r := range rings() {
			r.checkSums(t, a, b)
			r.checkPow(t, a, b)
			r.checkInv(t, a)
			r.checkRoot(t, a)
		}
	})
}

func BenchmarkMul(b *testing.B) {
	r, a := field.P(), most
	for b.Loop() {
		a = r.Mul(a, a)
	}
}

func BenchmarkInv(b *testing.B) {
	r, a := field.N(), most
	for b.Loop() {
		a, _ = r.Inv(a)
	}
}
