package curve_test

import (
	"bytes"
	"math/big"
	"math/rand"
	"testing"

	"byname/api"
	"byname/curve"
	"byname/wide"
)

// P4.1: Base's digits; N times it is None, and nothing less is, as N is prime
// and Base isn't None.
func TestBase(t *testing.T) {
	g := curve.Base()
	if g != point(digitsX, digitsY) {
		t.Errorf("Base: %v", g)
	}
	if got := curve.Times(fromBig(primeN), g); got != none {
		t.Errorf("N times Base: %v", got)
	}
	if timesReference(fromBig(primeN), g) != none {
		t.Error("N times Base isn't None")
	}
}

// P4.1, the section Types: points of the curve, and those beside it.
func TestOn(t *testing.T) {
	for _, a := range points() {
		if !onReference(a) {
			t.Fatalf("no point: %v", a)
		}
		if !curve.On(a) {
			t.Errorf("%v isn't on it", a)
		}
		if a.None {
			continue
		}
		for _, x := range []api.Point{
			{X: a.X, Y: a.Y, None: true}, {X: a.Y, Y: a.X}, {X: a.X, Y: a.X}, {X: a.X}, {Y: a.Y},
			{X: a.X, Y: offset(toBig(a.Y), 1)}, {X: offset(toBig(a.X), 1), Y: a.Y}, {X: offset(toBig(a.X), 1), Y: offset(toBig(a.Y), 1)},
		} {
			if got := curve.On(x); got != onReference(x) {
				t.Errorf("On %v: %v", x, got)
			}
		}
	}
	for _, a := range strays() {
		if onReference(a) {
			t.Fatalf("a point: %v", a)
		}
		if curve.On(a) {
			t.Errorf("%v is on it", a)
		}
	}
}

// P4.1: X and Y must be below P themselves, not modulo it.
func TestOnBelowP(t *testing.T) {
	a, ok := atX(big.NewInt(1))
	if !ok || !curve.On(a) {
		t.Fatalf("X 1: %v %v", a, ok)
	}
	a.X = offset(primeP, 1)
	if curve.On(a) {
		t.Error("X is P and 1")
	}
	found := 0
	for n := int64(1); n < 20; n++ {
		if a, ok := atY(n); ok {
			found++
			if !curve.On(a) {
				t.Errorf("Y %d isn't on it", n)
			}
			a.Y = offset(primeP, n)
			if curve.On(a) {
				t.Errorf("Y is P and %d", n)
			}
		}
	}
	if found == 0 {
		t.Error("no point with a small Y")
	}
}

// P4.1: Y and Neg's Y are P together; None of None.
func TestNeg(t *testing.T) {
	for _, a := range points() {
		b := curve.Neg(a)
		if !curve.On(b) || b.X != a.X || b.None != a.None || curve.Neg(b) != a {
			t.Errorf("Neg %v: %v", a, b)
		}
		sum := new(big.Int).Add(toBig(a.Y), toBig(b.Y))
		if !a.None && sum.Cmp(primeP) != 0 {
			t.Errorf("Neg %v: %v", a, b)
		}
	}
	if got := curve.Neg(none); got != none {
		t.Errorf("Neg of None: %v", got)
	}
}

// P4.2: of all pairs.
func TestAdd(t *testing.T) {
	l := points()
	for _, a := range l {
		for _, b := range l {
			got, want := curve.Add(a, b), addReference(a, b)
			if got != want || !curve.On(got) {
				t.Fatalf("Add %v %v: %v, want %v", a, b, got, want)
			}
			if curve.Add(b, a) != got {
				t.Fatalf("Add %v %v: not the same turned", a, b)
			}
		}
	}
}

// P4.2: what the document tells of None, of Neg, and of two that are one.
func TestAddAtTheEnds(t *testing.T) {
	if curve.Add(none, none) != none {
		t.Error("None and None")
	}
	for _, a := range points() {
		if curve.Add(a, none) != a || curve.Add(none, a) != a {
			t.Errorf("%v and None", a)
		}
		if curve.Add(a, curve.Neg(a)) != none || curve.Add(curve.Neg(a), a) != none {
			t.Errorf("%v and Neg of it", a)
		}
		if got, want := curve.Add(a, a), timesReference(wide.Of(2), a); got != want {
			t.Errorf("twice %v: %v, want %v", a, got, want)
		}
		if a.None {
			continue
		}
		// Three points on one level line are None together.
		b := level(a)
		c := level(b)
		if a == b || b == c || curve.Add(curve.Add(a, b), c) != none {
			t.Errorf("level with %v", a)
		}
	}
}

// P4.2: in whatever order points are added.
func TestAddInAnyOrder(t *testing.T) {
	l := mixedPoints(8)
	for _, a := range l {
		for _, b := range l {
			for _, c := range l {
				if curve.Add(curve.Add(a, b), c) != curve.Add(a, curve.Add(b, c)) {
					t.Fatalf("%v %v %v", a, b, c)
				}
			}
		}
	}
}

// P4.3: multiples of Base that are published.
func TestTimesPublished(t *testing.T) {
	for _, c := range []struct{ k, x, y string }{
		{"1", digitsX, digitsY},
		{"2", "C6047F9441ED7D6D3045406E95C07CD85C778E4B8CEF3CA7ABAC09B95C709EE5", "1AE168FEA63DC339A3C58419466CEAEEF7F632653266D0E1236431A950CFE52A"},
		{"3", "F9308A019258C31049344F85F89D5229B531C845836F99B08601F113BCE036F9", "388F7B0F632DE8140FE337E62A37F3566500A99934C2231B6CB9FD7584B8E672"},
		{"4", "E493DBF1C10D80F3581E4904930B1404CC6C13900EE0758474FA94ABE8C4CD13", "51ED993EA0D455B75642E2098EA51448D967AE33BFBDFE40CFE97BDC47739922"},
		{"5", "2F8BDE4D1A07209355B4A7250A5C5128E88B84BDDC619AB7CBA8D569B240EFE4", "D8AC222636E5E3D6D4DBA9DDA6C9C426F788271BAB0D6840DCA87D3AA6AC62D6"},
		{"FFFFFFFFFFFFFFFFFFFFFFFFFFFFFFFEBAAEDCE6AF48A03BBFD25E8CD0364140", digitsX, "B7C52588D95C3B9AA25B0403F1EEF75702E84BB7597AABE663B82F6F04EF2777"},
	} {
		if got := curve.Times(fromBig(number(c.k)), curve.Base()); got != point(c.x, c.y) {
			t.Errorf("%s times Base: %v", c.k, got)
		}
	}
}

// P4.3: one by one, from 0 on.
func TestTimesIsAdded(t *testing.T) {
	for _, a := range []api.Point{none, curve.Base(), curve.Neg(curve.Base()), mixedPoints(1)[0]} {
		sum := none
		for k := range uint64(130) {
			if got := curve.Times(wide.Of(k), a); got != sum {
				t.Fatalf("%d times %v: %v, want %v", k, a, got, sum)
			}
			sum = curve.Add(sum, a)
		}
	}
}

// P4.3: k isn't below N only: from N on, it begins anew.
func TestTimesAtTheEnds(t *testing.T) {
	for _, a := range points() {
		for _, c := range []struct {
			k    api.Wide
			want api.Point
		}{
			{nought, none}, {one, a}, {offset(primeN, -1), curve.Neg(a)}, {offset(primeN, 0), none}, {offset(primeN, 1), a},
			{offset(primeN, 2), addReference(a, a)}, {offset(primeN, -2), curve.Neg(addReference(a, a))},
		} {
			if got := curve.Times(c.k, a); got != c.want {
				t.Errorf("%v times %v: %v, want %v", c.k, a, got, c.want)
			}
		}
	}
}

// P4.3: edges of numbers, of edges of points.
func TestTimes(t *testing.T) {
	r := rand.New(rand.NewSource(6))
	for i, a := range points() {
		numbers := []api.Wide{mixed(r), wide.Right(mixed(r), i*5)}
		if i%8 == 0 {
			numbers = append(numbers, edgeNumbers()...)
		}
		for _, k := range numbers {
			if got, want := curve.Times(k, a), timesReference(k, a); got != want {
				t.Fatalf("%v times %v: %v, want %v", k, a, got, want)
			}
		}
	}
}

// P4.3: Both of small numbers and of points near Base: sums on the way are
// None, or Base, or a, or the Neg of either.
func TestBothNearBase(t *testing.T) {
	g := curve.Base()
	row := []api.Point{none}
	for range 80 {
		row = append(row, addReference(row[len(row)-1], g))
	}
	at := func(n int) api.Point {
		if n < 0 {
			return curve.Neg(row[-n])
		}
		return row[n]
	}
	for n := -4; n <= 4; n++ {
		for k := range 16 {
			for m := range 16 {
				if got, want := curve.Both(wide.Of(uint64(k)), wide.Of(uint64(m)), at(n)), at(k+m*n); got != want {
					t.Fatalf("Both %d %d of %d: %v, want %v", k, m, n, got, want)
				}
			}
		}
	}
}

// P4.3: Both at the ends of each.
func TestBothAtTheEnds(t *testing.T) {
	g := curve.Base()
	for i, a := range points() {
		if i%3 != 0 {
			continue
		}
		for _, k := range []api.Wide{nought, one, offset(primeN, -1), offset(primeN, 0), offset(primeN, 1), {^uint64(0), ^uint64(0), ^uint64(0), ^uint64(0)}} {
			ofBase, ofA := timesReference(k, g), timesReference(k, a)
			for j, c := range []struct{ got, want api.Point }{
				{curve.Both(k, nought, a), ofBase}, {curve.Both(nought, k, a), ofA}, {curve.Both(k, k, none), ofBase},
				{curve.Both(k, k, a), addReference(ofBase, ofA)}, {curve.Both(k, k, curve.Neg(g)), none},
				{curve.Both(k, one, a), addReference(ofBase, a)}, {curve.Both(one, k, a), addReference(g, ofA)},
				{curve.Both(k, one, curve.Neg(ofBase)), none},
			} {
				if c.got != c.want {
					t.Errorf("%d: %v of %v: %v, want %v", j, k, a, c.got, c.want)
				}
			}
		}
	}
}

// P4.3: Both of mixed numbers.
func TestBoth(t *testing.T) {
	r := rand.New(rand.NewSource(7))
	for i, a := range points() {
		k, m := wide.Right(mixed(r), i*3), wide.Right(mixed(r), i*2%256)
		if got, want := curve.Both(k, m, a), bothReference(k, m, a); got != want {
			t.Fatalf("Both %v %v %v: %v, want %v", k, m, a, got, want)
		}
	}
}

// P4.4: the first byte, X's bytes, and back.
func TestBytes(t *testing.T) {
	for _, a := range points() {
		want := []byte{0}
		if !a.None {
			x := wide.Bytes(a.X)
			want = append([]byte{byte(2 + toBig(a.Y).Bit(0))}, x[:]...)
		}
		got := curve.Bytes(a)
		if !bytes.Equal(got, want) {
			t.Errorf("Bytes %v: %v, want %v", a, got, want)
		}
		if back, e := curve.Parse(want); back != a || e != api.OK {
			t.Errorf("Parse %v: %v %d", want, back, e)
		}
	}
	if got := curve.Bytes(none); len(got) != 1 || got[0] != 0 {
		t.Errorf("Bytes of None: %v", got)
	}
}

// Rules: what is answered is new memory; what is handed in isn't changed.
func TestBytesAreApart(t *testing.T) {
	for _, a := range []api.Point{none, curve.Base()} {
		b := curve.Bytes(a)
		want := bytes.Clone(b)
		room := b[:cap(b)]
		for i := range room {
			room[i] = 0xAA
		}
		if got := curve.Bytes(a); !bytes.Equal(got, want) {
			t.Errorf("written over: %v, want %v", got, want)
		}
	}
	b := append(curve.Bytes(curve.Base()), 7, 7, 7)
	was := bytes.Clone(b)
	curve.Parse(b[:33])
	curve.Parse(b)
	if !bytes.Equal(b, was) {
		t.Errorf("changed: %v", b)
	}
}

func refused(t *testing.T, b []byte) {
	t.Helper()
	if a, e := curve.Parse(b); a != (api.Point{}) || e != api.ErrPoint {
		t.Errorf("Parse %v: %v %d", b, a, e)
	}
}

// P4.4, Errors: lengths and first bytes that no point has.
func TestParseForm(t *testing.T) {
	if api.ErrPoint != 41 {
		t.Errorf("ErrPoint: %d", api.ErrPoint)
	}
	refused(t, nil)
	long := append(curve.Bytes(curve.Base()), make([]byte, 100)...)
	odd := append([]byte{3}, long[1:]...)
	for n := range len(long) {
		if n != 33 {
			refused(t, long[:n])
			refused(t, odd[:n])
		}
	}
	for n := 2; n < 70; n++ {
		refused(t, make([]byte, n))
	}
	for first := range 256 {
		if first != 0 {
			refused(t, []byte{byte(first)})
		}
		b := append([]byte{byte(first)}, long[1:33]...)
		if first != 2 && first != 3 {
			refused(t, b)
		} else if a, e := curve.Parse(b); e != api.OK || a.X != curve.Base().X || int(a.Y[0]%2) != first-2 {
			t.Errorf("Parse %v: %v %d", b, a, e)
		}
	}
}

// P4.4, Errors: an X that no point has, and one that isn't below P, even where
// modulo P it would do.
func TestParseX(t *testing.T) {
	r := rand.New(rand.NewSource(8))
	found, missed := 0, 0
	check := func(x *big.Int) {
		digits := wide.Bytes(fromBig(x))
		even, odd := append([]byte{2}, digits[:]...), append([]byte{3}, digits[:]...)
		a, ok := atX(x)
		if !ok || x.Cmp(primeP) >= 0 {
			missed++
			refused(t, even)
			refused(t, odd)
			return
		}
		found++
		if got, e := curve.Parse(even); got != a || e != api.OK {
			t.Errorf("Parse %v: %v %d, want %v", even, got, e, a)
		}
		if got, e := curve.Parse(odd); got != curve.Neg(a) || e != api.OK {
			t.Errorf("Parse %v: %v %d, want Neg of %v", odd, got, e, a)
		}
	}
	for n := int64(-30); n < 30; n++ {
		check(new(big.Int).Add(primeP, big.NewInt(n)))
		check(big.NewInt(n + 30))
		check(toBig(mixed(r)))
	}
	for n := range uint64(20) {
		greatest, _ := wide.Sub(nought, wide.Of(n+1))
		check(toBig(greatest))
	}
	if found < 20 || missed < 20 {
		t.Errorf("%d found, %d missed", found, missed)
	}
}

// P1: nothing panics, whatever points are handed in, nor goes on for ever; P2:
// asked again, the answer is the same.
func TestStrays(t *testing.T) {
	l := append(strays(), edgePoints()[:6]...)
	k := offset(primeN, -1)
	for _, a := range l {
		if curve.Neg(a) != curve.Neg(a) || !bytes.Equal(curve.Bytes(a), curve.Bytes(a)) {
			t.Errorf("%v", a)
		}
		if curve.Times(k, a) != curve.Times(k, a) || curve.Both(wide.Of(5), wide.Of(7), a) != curve.Both(wide.Of(5), wide.Of(7), a) {
			t.Errorf("%v", a)
		}
		for _, b := range l {
			if curve.Add(a, b) != curve.Add(a, b) {
				t.Errorf("%v %v", a, b)
			}
		}
	}
}

func FuzzCurve(f *testing.F) {
	f.Add(uint64(1), uint64(0), uint64(0), uint64(0), uint64(0), uint64(0), uint64(0), uint64(0), uint64(2))
	f.Add(uint64(0xBFD25E8CD0364140), uint64(0xBAAEDCE6AF48A03B), ^uint64(1), ^uint64(0), uint64(1), uint64(0), uint64(0), uint64(0), uint64(1))
	f.Fuzz(func(t *testing.T, k0, k1, k2, k3, m0, m1, m2, m3, n uint64) {
		k, m := api.Wide{k0, k1, k2, k3}, api.Wide{m0, m1, m2, m3}
		a := timesReference(wide.Of(n), curve.Base())
		if got, want := curve.Both(k, m, a), bothReference(k, m, a); got != want {
			t.Fatalf("Both %v %v %v: %v, want %v", k, m, a, got, want)
		}
		b := curve.Times(k, a)
		if want := timesReference(k, a); b != want {
			t.Fatalf("%v times %v: %v, want %v", k, a, b, want)
		}
		if got, want := curve.Add(a, b), addReference(a, b); got != want {
			t.Fatalf("Add %v %v: %v, want %v", a, b, got, want)
		}
		if stray := (api.Point{X: k, Y: m}); curve.On(stray) != onReference(stray) {
			t.Fatalf("On %v", stray)
		}
		if got, e := curve.Parse(curve.Bytes(b)); got != b || e != api.OK {
			t.Fatalf("Parse of Bytes of %v: %v %d", b, got, e)
		}
	})
}

func FuzzParse(f *testing.F) {
	f.Add([]byte{0})
	f.Add(curve.Bytes(curve.Base()))
	f.Fuzz(func(t *testing.T, b []byte) {
		a, e := curve.Parse(b)
		if e == api.OK && (!onReference(a) || !bytes.Equal(curve.Bytes(a), b)) {
			t.Fatalf("Parse %v: %v", b, a)
		}
		if e != api.OK && (e != api.ErrPoint || a != (api.Point{})) {
			t.Fatalf("Parse %v: %v %d", b, a, e)
		}
	})
}

func BenchmarkAdd(b *testing.B) {
	a := curve.Base()
	for b.Loop() {
		a = curve.Add(a, curve.Base())
	}
}

func BenchmarkBoth(b *testing.B) {
	a, k := curve.Add(curve.Base(), curve.Base()), offset(primeN, -5)
	for b.Loop() {
		a = curve.Both(k, k, a)
	}
}
