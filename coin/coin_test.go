package coin_test

import (
	"bytes"
	"math"
	"math/big"
	"math/rand"
	"testing"

	"byname/api"
	"byname/coin"
)

// Errors, Types: the numbers that the chapter gives.
func TestNumbers(t *testing.T) {
	if api.ErrMoney != 91 || api.ErrShort != 61 || api.ErrForm != 62 {
		t.Error(api.ErrMoney, api.ErrShort, api.ErrForm)
	}
	if api.MaxMoney != 2000000000000 || api.FirstSubsidy != 5000000000 || api.Halving != 150 || api.MaxScript != 2000 {
		t.Error(int64(api.MaxMoney), int64(api.FirstSubsidy), api.Halving, api.MaxScript)
	}
}

// P9.1: held from both sides.
func TestMoney(t *testing.T) {
	for _, n := range amounts {
		if got := coin.Money(n); got != moneyReference(big.NewInt(n)) {
			t.Errorf("Money of %d: %t", n, got)
		}
	}
	for n, want := range map[int64]bool{-1: false, 0: true, 2000000000000: true, 2000000000001: false} {
		if got := coin.Money(n); got != want {
			t.Errorf("Money of %d: %t", n, got)
		}
	}
}

func outs(values ...int64) []api.Out {
	var l []api.Out
	for _, n := range values {
		l = append(l, api.Out{Value: n, Lock: sample(int(uint64(n) % 5))})
	}
	return l
}

// P9.1: sums written out.
func TestSumWritten(t *testing.T) {
	for i, c := range []struct {
		l    []api.Out
		want int64
		e    api.Errno
	}{
		{nil, 0, 0},
		{[]api.Out{}, 0, 0},
		{outs(0), 0, 0},
		{outs(0, 0, 0), 0, 0},
		{outs(5, 7), 12, 0},
		{outs(2000000000000), 2000000000000, 0},
		{outs(0, 2000000000000, 0), 2000000000000, 0},
		{outs(1999999999999, 1), 2000000000000, 0},
		{outs(1, 1999999999999), 2000000000000, 0},
		{outs(1000000000000, 1000000000000), 2000000000000, 0},
		{outs(2000000000001), 0, 91},
		{outs(2000000000000, 1), 0, 91},
		{outs(1, 2000000000000), 0, 91},
		{outs(1000000000000, 1000000000000, 1), 0, 91},
		{outs(-1), 0, 91},
		// Below 0, though all together are MONEY.
		{outs(-1, 1), 0, 91},
		{outs(1, -1), 0, 91},
		{outs(100, -1, 100), 0, 91},
		// Too much, though all together are MONEY.
		{outs(2000000000001, -1), 0, 91},
		{outs(-1, 2000000000001), 0, 91},
		{outs(2000000000000, 2000000000000, -2000000000000), 0, 91},
		// All together would be 0, or 5, in 64 bits.
		{outs(1<<62, 1<<62, 1<<62, 1<<62), 0, 91},
		{outs(math.MaxInt64, math.MaxInt64, 7), 0, 91},
		{outs(math.MinInt64, math.MinInt64), 0, 91},
		{outs(math.MinInt64, math.MinInt64, 5), 0, 91},
		{outs(math.MaxInt64, 1, math.MinInt64), 0, 91},
	} {
		if got, e := coin.Sum(c.l...); got != c.want || e != c.e {
			t.Errorf("%d: %d, error %d, want %d, error %d", i, got, e, c.want, c.e)
		}
	}
	if got, e := coin.Sum(); got != 0 || e != api.OK {
		t.Error(got, e)
	}
	// Locks don't count, nor how long they are.
	if got, e := coin.Sum(api.Out{Value: 3, Lock: make([]byte, 5000)}, api.Out{Value: 4}); got != 7 || e != api.OK {
		t.Error(got, e)
	}
}

// P9.1: all rows of up to three edges, beside the reference.
func TestSum(t *testing.T) {
	hold := func(values ...int64) {
		l := outs(values...)
		want, e := sumReference(l)
		if got, gotError := coin.Sum(l...); got != want || gotError != e {
			t.Fatalf("Sum of %d: %d, error %d, want %d, error %d", values, got, gotError, want, e)
		}
	}
	for _, a := range amounts {
		hold(a)
		for _, b := range amounts {
			hold(a, b)
			for _, c := range amounts {
				hold(a, b, c)
			}
		}
	}
}

// P9.1: long rows, with one amount that can't be in some of them.
func TestSumMixed(t *testing.T) {
	r := rand.New(rand.NewSource(9))
	seen := map[api.Errno]int{}
	for range 5000 {
		n := 1 + r.Intn(40)
		values := make([]int64, n)
		for i := range values {
			values[i] = r.Int63n(2 * api.MaxMoney / int64(n))
		}
		if r.Intn(8) == 0 {
			values[r.Intn(n)] = amounts[r.Intn(len(amounts))]
		}
		l := outs(values...)
		want, e := sumReference(l)
		if got, gotError := coin.Sum(l...); got != want || gotError != e {
			t.Fatalf("Sum of %d: %d, error %d, want %d, error %d", values, got, gotError, want, e)
		}
		seen[e]++
	}
	if seen[0] < 1000 || seen[91] < 1000 {
		t.Error(seen)
	}
}

// P9.1: so many that all together would be 0 in 64 bits, and each is MONEY.
func TestSumRound(t *testing.T) {
	const times = 9223372
	l := make([]api.Out, times+1)
	for i := range l {
		l[i].Value = api.MaxMoney
	}
	l[times].Value = math.MaxUint64 - times*api.MaxMoney + 1
	if got, e := coin.Sum(l...); got != 0 || e != api.ErrMoney {
		t.Error(got, e)
	}
}

// P9.1, Examples: subsidies written out.
func TestSubsidyWritten(t *testing.T) {
	for _, c := range [][2]int64{
		{0, 5000000000}, {1, 5000000000}, {149, 5000000000}, {150, 2500000000}, {151, 2500000000}, {299, 2500000000}, {300, 1250000000},
		// 2 to the power of 9 goes into it; behind that it is rounded down.
		{1350, 9765625}, {1499, 9765625}, {1500, 4882812}, {1650, 2441406}, {1800, 1220703}, {1950, 610351},
		{4650, 2}, {4799, 2}, {4800, 1}, {4949, 1}, {4950, 0}, {5100, 0}, {1000000000, 0},
		{-1, 0}, {-149, 0}, {-150, 0}, {-151, 0}, {-4800, 0},
	} {
		if got := coin.Subsidy(c[0]); got != c[1] {
			t.Errorf("Subsidy of %d: %d, want %d", c[0], got, c[1])
		}
	}
}

// P9.1: each height, and those of which the halvings would be few in fewer bits.
func TestSubsidy(t *testing.T) {
	for height := int64(-1000); height < 20000; height++ {
		if got := coin.Subsidy(height); got != subsidyReference(height) {
			t.Fatalf("Subsidy of %d: %d", height, got)
		}
	}
	far := []int64{math.MaxInt64, math.MaxInt64 - 150, 1 << 31, 1 << 32, 1<<32 + 10, 1 << 62}
	for _, halvings := range []int64{63, 64, 65, 127, 128, 255, 256, 257, 65536, 1 << 31, 1 << 32, 1<<32 + 1, math.MaxInt64 / 150} {
		far = append(far, halvings*150, halvings*150-1)
	}
	for _, height := range far {
		if got := coin.Subsidy(height); got != 0 {
			t.Errorf("Subsidy of %d: %d", height, got)
		}
		if got := coin.Subsidy(-height); got != 0 {
			t.Errorf("Subsidy of %d: %d", -height, got)
		}
	}
	if got := coin.Subsidy(math.MinInt64); got != 0 {
		t.Errorf("Subsidy of the lowest: %d", got)
	}
}

// P9.1: one Value, one Lock; nil and empty are one.
func TestSame(t *testing.T) {
	for i, c := range []struct {
		a, b api.Out
		want bool
	}{
		{api.Out{}, api.Out{}, true},
		{api.Out{}, api.Out{Lock: []byte{}}, true},
		{api.Out{Value: 5}, api.Out{Value: 5}, true},
		{api.Out{Value: 5}, api.Out{Value: 6}, false},
		{api.Out{Value: 5}, api.Out{Value: -5}, false},
		{api.Out{Value: 5}, api.Out{Value: 5 + 1<<32}, false},
		{api.Out{Value: math.MinInt64}, api.Out{Value: math.MaxInt64}, false},
		{api.Out{Value: math.MinInt64}, api.Out{Value: math.MinInt64}, true},
		{api.Out{Value: 5, Lock: []byte{1, 2}}, api.Out{Value: 5, Lock: []byte{1, 2}}, true},
		{api.Out{Value: 5, Lock: []byte{1, 2}}, api.Out{Value: 6, Lock: []byte{1, 2}}, false},
		{api.Out{Value: 5, Lock: []byte{1, 2}}, api.Out{Value: 5, Lock: []byte{1, 3}}, false},
		{api.Out{Value: 5, Lock: []byte{1, 2}}, api.Out{Value: 5, Lock: []byte{2, 1}}, false},
		{api.Out{Value: 5, Lock: []byte{1, 2}}, api.Out{Value: 5, Lock: []byte{0, 2}}, false},
		{api.Out{Value: 5, Lock: []byte{1}}, api.Out{Value: 5, Lock: []byte{1, 0}}, false},
		{api.Out{Value: 5}, api.Out{Value: 5, Lock: []byte{0}}, false},
		{api.Out{Lock: make([]byte, 70000)}, api.Out{Lock: make([]byte, 70000)}, true},
		{api.Out{Lock: make([]byte, 70000)}, api.Out{Lock: make([]byte, 70001)}, false},
		{api.Out{Value: 5, Lock: roomy([]byte{1, 2})}, api.Out{Value: 5, Lock: []byte{1, 2}}, true},
	} {
		if coin.Same(c.a, c.b) != c.want || coin.Same(c.b, c.a) != c.want {
			t.Errorf("%d: %t, %t, want %t", i, coin.Same(c.a, c.b), coin.Same(c.b, c.a), c.want)
		}
	}
}

// The rules: what is handed in isn't changed, spare room included.
func TestAmountsUnchanged(t *testing.T) {
	lock := roomy([]byte{1, 2, 3})
	whole := bytes.Clone(lock[:cap(lock)])
	l := make([]api.Out, 3, 8)
	for i := range l[:8] {
		l[:8][i] = api.Out{Value: int64(i + 1), Lock: lock}
	}
	if got, e := coin.Sum(l...); got != 6 || e != api.OK {
		t.Error(got, e)
	}
	if !coin.Same(l[0], l[0]) || coin.Same(l[0], l[1]) {
		t.Error("Same")
	}
	for i, o := range l[:8] {
		if o.Value != int64(i+1) || len(o.Lock) != 3 || &o.Lock[0] != &lock[0] {
			t.Errorf("%d: %v", i, o)
		}
	}
	if !bytes.Equal(lock[:cap(lock)], whole) {
		t.Error(lock[:cap(lock)])
	}
}
