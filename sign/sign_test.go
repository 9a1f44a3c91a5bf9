package sign_test

import (
	"bytes"
	"math/big"
	"math/rand"
	"testing"

	"byname/api"
	"byname/curve"
	"byname/digest"
	"byname/sign"
	"byname/wide"
)

// P5.1, P5.2: signatures that are published.
var published = []struct{ secret, text, k, r, s string }{
	{
		"1", "Satoshi Nakamoto",
		"8F8A276C19F4149656B280621E358CCE24F5F52542772691EE69063B74F15D15",
		"934B1EA10A4B3C1757E2B0C017D0B6143CE3C9A7E6A4A49860D7A6AB210EE3D8",
		"2442CE9D2B916064108014783E923EC36B49743E2FFA1C4496F01A512AAFD9E5",
	},
	{
		"1", "All those moments will be lost in time, like tears in rain. Time to die...",
		"38AA22D72376B4DBC472E06C3BA403EE0A394DA63FC58D88686C611ABA98D6B3",
		"8600DBD41E348FE5C9465AB92D23E3DB8B98B873BEECD930736488696438CB6B",
		"547FE64427496DB33BF66019DACBF0039C04199ABB0122918601DB38A72CFC21",
	},
	{
		"FFFFFFFFFFFFFFFFFFFFFFFFFFFFFFFEBAAEDCE6AF48A03BBFD25E8CD0364140", "Satoshi Nakamoto",
		"33A19B60E25FB6F4435AF53A3D42D493644827367E6453928554F43E49AA6F90",
		"FD567D121DB66E382991534ADA77A6BD3106F0A1098C231E47993447CD6AF2D0",
		"6B39CD0EB1BC8603E159EF5C20A5C8AD685A45B06CE9BEBED3F153D10D93BED5",
	},
	{
		"F8B8AF8CE3C7CCA5E300D33939540C10D45CE001B8F252BFBC57BA0342904181", "Alan Turing",
		"525A82B70E67874398067543FD84C83D30C175FDC45FDEEE082FE13B1D7CFDF1",
		"7063AE83E7F62BBB171798131B4A0564B956930092B33B07B395615D9EC7E15C",
		"58DFCC1E00A35E1572F366FFE34BA0FC47DB1E7189759B9FB233C5B05AB388EA",
	},
}

func TestPublished(t *testing.T) {
	for _, c := range published {
		secret, h := fromBig(number(c.secret)), digest.Sum([]byte(c.text))
		want := api.Sig{R: fromBig(number(c.r)), S: fromBig(number(c.s))}
		if got, e := sign.Sign(secret, h, fromBig(number(c.k))); got != want || e != api.OK {
			t.Errorf("Sign %s: %v %d, want %v", c.text, got, e, want)
		}
		if a, e := sign.Public(secret); e != api.OK || !sign.Verify(a, h, want) {
			t.Errorf("Verify %s: %v %d", c.text, a, e)
		}
	}
}

// P5.1: points of secrets that are published.
func TestPublic(t *testing.T) {
	for _, c := range []struct{ secret, x, y string }{
		{"1", "79BE667EF9DCBBAC55A06295CE870B07029BFCDB2DCE28D959F2815B16F81798", "483ADA7726A3C4655DA4FBFC0E1108A8FD17B448A68554199C47D08FFB10D4B8"},
		{"2", "C6047F9441ED7D6D3045406E95C07CD85C778E4B8CEF3CA7ABAC09B95C709EE5", "1AE168FEA63DC339A3C58419466CEAEEF7F632653266D0E1236431A950CFE52A"},
		{"3", "F9308A019258C31049344F85F89D5229B531C845836F99B08601F113BCE036F9", "388F7B0F632DE8140FE337E62A37F3566500A99934C2231B6CB9FD7584B8E672"},
		{"FFFFFFFFFFFFFFFFFFFFFFFFFFFFFFFEBAAEDCE6AF48A03BBFD25E8CD0364140", "79BE667EF9DCBBAC55A06295CE870B07029BFCDB2DCE28D959F2815B16F81798", "B7C52588D95C3B9AA25B0403F1EEF75702E84BB7597AABE663B82F6F04EF2777"},
	} {
		want := api.Point{X: fromBig(number(c.x)), Y: fromBig(number(c.y))}
		if got, e := sign.Public(fromBig(number(c.secret))); got != want || e != api.OK {
			t.Errorf("Public %s: %v %d, want %v", c.secret, got, e, want)
		}
	}
	r := rand.New(rand.NewSource(1))
	for _, secret := range append(edgeSecrets(), mixedSecret(r), mixedSecret(r)) {
		if got, e := sign.Public(secret); got != curve.Times(secret, curve.Base()) || e != api.OK || got.None {
			t.Errorf("Public %v: %v %d", secret, got, e)
		}
	}
}

// P5.1, Types, Errors: 0 is no secret, and nothing is from N on; the point
// beside the error isn't None.
func TestPublicRefused(t *testing.T) {
	if api.ErrSign != 51 {
		t.Errorf("ErrSign: %d", api.ErrSign)
	}
	for _, secret := range noSecrets() {
		if a, e := sign.Public(secret); a != (api.Point{}) || e != api.ErrSign {
			t.Errorf("Public %v: %v %d", secret, a, e)
		}
	}
}

// P5.1, P5.2: of edges, and what is signed is verified.
func TestSign(t *testing.T) {
	r := rand.New(rand.NewSource(2))
	secrets, hashes := append(edgeSecrets(), mixedSecret(r), mixedSecret(r)), edgeHashes()
	for i, secret := range secrets {
		a, _ := sign.Public(secret)
		for j, k := range append(edgeSecrets(), mixedSecret(r), mixedSecret(r)) {
			for _, h := range []api.Hash{hashes[(i+j)%len(hashes)], wide.Bytes(mixed(r))} {
				want, fault := signReference(secret, h, k)
				got, e := sign.Sign(secret, h, k)
				if got != want || e != fault {
					t.Fatalf("Sign %v %v %v: %v %d, want %v %d", secret, h, k, got, e, want, fault)
				}
				if e == api.OK && !sign.Verify(a, h, got) {
					t.Fatalf("Verify of Sign %v %v %v", secret, h, k)
				}
			}
		}
	}
}

// P5.1: the hash is a number modulo N, its highest byte first.
func TestSignHash(t *testing.T) {
	secret, k := wide.Of(77), wide.Of(78)
	for _, n := range []int64{0, 1, 5} {
		small, _ := sign.Sign(secret, hashOf(big.NewInt(n)), k)
		beyond, _ := sign.Sign(secret, wide.Bytes(offset(primeN, n)), k)
		if small != beyond || small.R == nought {
			t.Errorf("%d and N: %v, want %v", n, beyond, small)
		}
		a, _ := sign.Public(secret)
		if !sign.Verify(a, wide.Bytes(offset(primeN, n)), small) || !sign.Verify(a, hashOf(big.NewInt(n)), beyond) {
			t.Errorf("%d and N aren't verified", n)
		}
	}
	// With k 1: S is the hash and R times secret; here as much as the hash less R.
	s, _ := sign.Sign(offset(primeN, -1), api.Hash{31: 9}, one)
	rest := modN(new(big.Int).Sub(big.NewInt(9), toBig(s.R)))
	if got := toBig(s.S); got.Cmp(rest) != 0 && new(big.Int).Sub(primeN, got).Cmp(rest) != 0 {
		t.Errorf("%v", s)
	}
}

// P5.1, Errors: neither may be no secret.
func TestSignRefused(t *testing.T) {
	h := digest.Sum(nil)
	for _, a := range noSecrets() {
		for _, b := range append(noSecrets(), edgeSecrets()...) {
			for _, c := range [][2]api.Wide{{a, b}, {b, a}} {
				if s, e := sign.Sign(c[0], h, c[1]); s != (api.Sig{}) || e != api.ErrSign {
					t.Errorf("Sign %v by %v: %v %d", c[0], c[1], s, e)
				}
			}
		}
	}
}

// hashFor is the hash of which S, ahead of the half, is s.
func hashFor(secret, k api.Wide, s *big.Int) api.Hash {
	r := toBig(curve.Times(k, curve.Base()).X)
	return hashOf(modN(new(big.Int).Sub(timesN(s, toBig(k)), timesN(r, toBig(secret)))))
}

// P5.1, Errors: S is 0.
func TestSignWithoutS(t *testing.T) {
	r := rand.New(rand.NewSource(3))
	for range 5 {
		secret, k := mixedSecret(r), mixedSecret(r)
		h := hashFor(secret, k, new(big.Int))
		if s, e := sign.Sign(secret, h, k); s != (api.Sig{}) || e != api.ErrSign {
			t.Errorf("Sign %v %v %v: %v %d", secret, h, k, s, e)
		}
	}
}

// P5.1: S is never above half of N, and what was stays as it is up to there.
func TestSignAtTheHalf(t *testing.T) {
	secret, k := fromBig(number("1234567890ABCDEF")), fromBig(number("FEDCBA0987654321"))
	for _, c := range []struct{ s, want api.Wide }{
		{one, one}, {wide.Of(2), wide.Of(2)}, {offset(half, -1), offset(half, -1)}, {offset(half, 0), offset(half, 0)},
		{offset(half, 1), offset(half, 0)}, {offset(half, 2), offset(half, -1)}, {offset(primeN, -2), wide.Of(2)}, {offset(primeN, -1), one},
	} {
		h := hashFor(secret, k, toBig(c.s))
		got, e := sign.Sign(secret, h, k)
		if got.S != c.want || e != api.OK {
			t.Errorf("S %v: %v %d, want %v", c.s, got, e, c.want)
		}
		if a, _ := sign.Public(secret); !sign.Verify(a, h, got) {
			t.Errorf("S %v isn't verified", c.s)
		}
	}
}

// P5.2: whatever is changed, it doesn't hold any more.
func TestVerifyChanged(t *testing.T) {
	r := rand.New(rand.NewSource(4))
	secret, h := mixedSecret(r), api.Hash(wide.Bytes(mixed(r)))
	a, _ := sign.Public(secret)
	s, _ := sign.Sign(secret, h, mixedSecret(r))
	if !sign.Verify(a, h, s) {
		t.Fatal("as it is")
	}
	for bit := 0; bit < 512; bit += 3 {
		b := sign.Bytes(s)
		b[bit/8] ^= 1 << (bit % 8)
		other, _ := sign.Parse(b)
		if sign.Verify(a, h, other) {
			t.Errorf("bit %d of the signature", bit)
		}
		again := h
		again[bit/16] ^= 1 << (bit % 8)
		if sign.Verify(a, again, s) {
			t.Errorf("bit %d of the hash", bit)
		}
	}
	stranger, _ := sign.Public(mixedSecret(r))
	for i, b := range []api.Point{curve.Neg(a), curve.Add(a, a), curve.Add(a, curve.Base()), curve.Base(), stranger} {
		if sign.Verify(b, h, s) {
			t.Errorf("another point: %d", i)
		}
	}
	if sign.Verify(a, h, api.Sig{R: s.S, S: s.R}) {
		t.Error("R and S turned")
	}
}

// P5.2: as the chapter says, of edges in all places.
func TestVerify(t *testing.T) {
	r := rand.New(rand.NewSource(5))
	numbers := append(append(edgeSecrets(), noSecrets()...), mixedSecret(r))
	hashes := edgeHashes()
	for i, first := range numbers {
		a := curve.Times(mixedSecret(r), curve.Base())
		for j, second := range numbers {
			s := api.Sig{R: first, S: second}
			h := hashes[(i+j)%len(hashes)]
			if got := sign.Verify(a, h, s); got != verifyReference(a, h, s) {
				t.Errorf("Verify %v %v %v: %v", a, h, s, got)
			}
		}
	}
}

// P5.2: R and S must be secrets. With R 0 and the hash 0 the sum is None, as
// with S 0: its X would be R, if that were asked alone.
func TestVerifyNoSecrets(t *testing.T) {
	a := curve.Base()
	for _, h := range []api.Hash{{}, hashOf(primeN), digest.Sum(nil)} {
		for _, s := range append(edgeSecrets(), noSecrets()...) {
			if sign.Verify(a, h, api.Sig{S: s}) || sign.Verify(a, h, api.Sig{R: s}) || sign.Verify(a, h, api.Sig{R: fromBig(primeN), S: s}) {
				t.Errorf("R or S 0, or R N, and %v of %v", s, h)
			}
		}
	}
}

// P5.2: a small R holds, but N and it together don't; so of S.
func TestVerifyBeyondN(t *testing.T) {
	b := firstAt(big.NewInt(1))
	z, r := big.NewInt(123456789), toBig(b.X)
	for n := int64(1); n < 4; n++ {
		s := big.NewInt(n)
		a := recovered(b, z, r, s)
		if !sign.Verify(a, hashOf(z), api.Sig{R: fromBig(r), S: fromBig(s)}) {
			t.Errorf("R %v, S %v", r, s)
		}
		highR, highS := new(big.Int).Add(r, primeN), new(big.Int).Add(s, primeN)
		for _, x := range [][2]*big.Int{{highR, s}, {r, highS}, {highR, highS}} {
			if sign.Verify(a, hashOf(z), api.Sig{R: fromBig(x[0]), S: fromBig(x[1])}) {
				t.Errorf("R %v, S %v", x[0], x[1])
			}
		}
	}
}

// P5.2: the sum's X from N on, below P: modulo N it is R, and itself it isn't.
func TestVerifyFolded(t *testing.T) {
	x := primeN
	for range 5 {
		b := firstAt(x)
		x = toBig(b.X)
		r := modN(x)
		if x.Cmp(primeN) < 0 {
			t.Fatalf("X %v is below N", x)
		}
		z, s := number("ABCDEF0123456789"), big.NewInt(98765)
		x = new(big.Int).Add(x, big.NewInt(1))
		if r.Sign() == 0 {
			continue
		}
		a := recovered(b, z, r, s)
		if !sign.Verify(a, hashOf(z), api.Sig{R: fromBig(r), S: fromBig(s)}) {
			t.Errorf("R %v", r)
		}
		if sign.Verify(a, hashOf(z), api.Sig{R: b.X, S: fromBig(s)}) {
			t.Errorf("R %v", b.X)
		}
	}
}

// P5.2: S up to half of N, rounded down, and not above, even if all else holds.
func TestVerifyAtTheHalf(t *testing.T) {
	b := curve.Times(wide.Of(1000), curve.Base())
	z, r := number("1122334455667788"), modN(toBig(b.X))
	for _, c := range []struct {
		s    api.Wide
		want bool
	}{
		{one, true}, {offset(half, -1), true}, {offset(half, 0), true},
		{offset(half, 1), false}, {offset(half, 2), false}, {offset(primeN, -2), false}, {offset(primeN, -1), false},
	} {
		a := recovered(b, z, r, toBig(c.s))
		if got := sign.Verify(a, hashOf(z), api.Sig{R: fromBig(r), S: c.s}); got != c.want {
			t.Errorf("S %v: %v", c.s, got)
		}
		less := new(big.Int).Sub(primeN, toBig(c.s))
		if got := sign.Verify(a, hashOf(z), api.Sig{R: fromBig(r), S: fromBig(less)}); got == c.want {
			t.Errorf("N less S %v: %v", c.s, got)
		}
	}
}

// P5.2: the sum is None, whatever R is.
func TestVerifyNone(t *testing.T) {
	r := rand.New(rand.NewSource(6))
	for _, first := range append(edgeSecrets(), mixedSecret(r)) {
		secret := mixedSecret(r)
		a, _ := sign.Public(secret)
		z := new(big.Int).Sub(primeN, timesN(toBig(first), toBig(secret)))
		for _, second := range []api.Wide{one, offset(half, 0), wide.Of(12345)} {
			if sign.Verify(a, hashOf(modN(z)), api.Sig{R: first, S: second}) {
				t.Errorf("R %v, S %v", first, second)
			}
		}
	}
}

// P5.2: points that aren't on the curve, and None, with signatures that would
// hold of them, if that weren't asked.
func TestVerifyStrays(t *testing.T) {
	small, g := firstAt(big.NewInt(1)), curve.Base()
	k, m := big.NewInt(31337), number("C0FFEEC0FFEE")
	h, s := forged(k, m, small)
	if !sign.Verify(small, h, s) {
		t.Fatalf("%v of %v", s, small)
	}
	beyond := small
	beyond.X = offset(primeP, toBig(small.X).Int64())
	if sign.Verify(beyond, h, s) {
		t.Error("X is beyond P")
	}
	small.None = true
	for _, a := range []api.Point{
		none, {}, small, beyond, {X: g.X}, {Y: g.Y}, {X: g.Y, Y: g.X}, {X: one, Y: one}, {X: one, None: true}, {Y: one, None: true},
		{X: g.X, Y: g.Y, None: true}, {X: offset(bound, -1), Y: offset(bound, -1)}, {X: fromBig(primeP), Y: fromBig(primeP)},
		{X: offset(toBig(g.X), 1), Y: g.Y}, {X: g.X, Y: offset(toBig(g.Y), 1)},
	} {
		for _, k := range []*big.Int{new(big.Int), k} {
			h, s := forged(k, m, a)
			if sign.Verify(a, h, s) {
				t.Errorf("%v of %v", s, a)
			}
		}
		if sign.Verify(a, digest.Sum(nil), api.Sig{R: one, S: one}) || sign.Verify(a, api.Hash{}, api.Sig{}) {
			t.Errorf("%v", a)
		}
	}
}

// P5.2: any point of the curve, with signatures without its secret.
func TestVerifyForged(t *testing.T) {
	r := rand.New(rand.NewSource(7))
	x := new(big.Int).Sub(primeP, big.NewInt(200))
	for _, a := range []api.Point{curve.Base(), curve.Neg(curve.Base()), firstAt(big.NewInt(2)), firstAt(x), curve.Neg(firstAt(x))} {
		for _, k := range append(edgeSecrets(), nought, mixedSecret(r)) {
			h, s := forged(toBig(k), toBig(mixedSecret(r)), a)
			if !sign.Verify(a, h, s) {
				t.Errorf("%v of %v", s, a)
			}
			if sign.Verify(curve.Neg(a), h, s) != verifyReference(curve.Neg(a), h, s) {
				t.Errorf("%v of Neg of %v", s, a)
			}
		}
	}
}

// P5.3: R first, then S, of any numbers, and back.
func TestBytes(t *testing.T) {
	r := rand.New(rand.NewSource(8))
	l := append(append(edgeSecrets(), noSecrets()...), mixed(r), mixed(r))
	for _, first := range l {
		for _, second := range l {
			s := api.Sig{R: first, S: second}
			head, tail := wide.Bytes(first), wide.Bytes(second)
			want := append(bytes.Clone(head[:]), tail[:]...)
			if got := sign.Bytes(s); !bytes.Equal(got, want) {
				t.Errorf("Bytes %v: %v, want %v", s, got, want)
			}
			if got, e := sign.Parse(want); got != s || e != api.OK {
				t.Errorf("Parse %v: %v %d, want %v", want, got, e, s)
			}
		}
	}
	b := make([]byte, 64)
	for i := range b {
		b[i] = byte(i + 1)
	}
	want := api.Sig{
		R: api.Wide{0x191A1B1C1D1E1F20, 0x1112131415161718, 0x090A0B0C0D0E0F10, 0x0102030405060708},
		S: api.Wide{0x393A3B3C3D3E3F40, 0x3132333435363738, 0x292A2B2C2D2E2F30, 0x2122232425262728},
	}
	if got, e := sign.Parse(b); got != want || e != api.OK || !bytes.Equal(sign.Bytes(want), b) {
		t.Errorf("Parse %v: %v %d", b, got, e)
	}
}

// P5.3, Errors: any other length.
func TestParseLength(t *testing.T) {
	long := bytes.Repeat([]byte{7}, 300)
	for n := range long {
		s, e := sign.Parse(long[:n])
		if n != 64 && (s != (api.Sig{}) || e != api.ErrSign) || n == 64 && e != api.OK {
			t.Errorf("%d bytes: %v %d", n, s, e)
		}
	}
	if s, e := sign.Parse(nil); s != (api.Sig{}) || e != api.ErrSign {
		t.Errorf("nil: %v %d", s, e)
	}
}

// Rules: what is answered is new memory; what is handed in isn't changed.
func TestBytesAreApart(t *testing.T) {
	s := api.Sig{R: wide.Of(258), S: wide.Of(772)}
	b := sign.Bytes(s)
	want := bytes.Clone(b)
	room := b[:cap(b)]
	for i := range room {
		room[i] = 0xAA
	}
	if got := sign.Bytes(s); !bytes.Equal(got, want) {
		t.Errorf("written over: %v, want %v", got, want)
	}
	long := append(bytes.Clone(want), 7, 7, 7)
	was := bytes.Clone(long)
	got, _ := sign.Parse(long[:64])
	sign.Parse(long)
	if !bytes.Equal(long, was) {
		t.Errorf("changed: %v", long)
	}
	clear(long)
	if got != s {
		t.Errorf("kept: %v", got)
	}
}

func FuzzSign(f *testing.F) {
	f.Add(uint64(1), uint64(0), uint64(0), uint64(0), uint64(1), uint64(0), uint64(0), uint64(0), make([]byte, 32))
	f.Add(uint64(0xBFD25E8CD0364140), uint64(0xBAAEDCE6AF48A03B), ^uint64(1), ^uint64(0), uint64(1), uint64(0), uint64(0), uint64(0), []byte{1})
	f.Fuzz(func(t *testing.T, a0, a1, a2, a3, k0, k1, k2, k3 uint64, b []byte) {
		secret, k := api.Wide{a0, a1, a2, a3}, api.Wide{k0, k1, k2, k3}
		var h api.Hash
		copy(h[:], b)
		want, fault := signReference(secret, h, k)
		got, e := sign.Sign(secret, h, k)
		if got != want || e != fault {
			t.Fatalf("Sign %v %v %v: %v %d, want %v %d", secret, h, k, got, e, want, fault)
		}
		a, none := sign.Public(secret)
		if (none == api.OK) != isSecret(secret) || e == api.OK && !sign.Verify(a, h, got) {
			t.Fatalf("Verify of Sign %v %v %v", secret, h, k)
		}
		other := api.Sig{R: k, S: secret}
		if sign.Verify(a, h, other) != verifyReference(a, h, other) {
			t.Fatalf("Verify %v %v %v", a, h, other)
		}
	})
}

func FuzzParse(f *testing.F) {
	f.Add(make([]byte, 63))
	f.Add(sign.Bytes(api.Sig{R: one, S: one}))
	f.Fuzz(func(t *testing.T, b []byte) {
		s, e := sign.Parse(b)
		if len(b) == 64 && (e != api.OK || !bytes.Equal(sign.Bytes(s), b)) {
			t.Fatalf("Parse %v: %v %d", b, s, e)
		}
		if len(b) != 64 && (e != api.ErrSign || s != (api.Sig{})) {
			t.Fatalf("Parse %v: %v %d", b, s, e)
		}
	})
}

func BenchmarkSign(b *testing.B) {
	for b.Loop() {
		sign.Sign(offset(half, 5), digest.Sum(nil), offset(half, 7))
	}
}

func BenchmarkVerify(b *testing.B) {
	secret, h := offset(half, 5), digest.Sum(nil)
	a, _ := sign.Public(secret)
	s, _ := sign.Sign(secret, h, offset(half, 7))
	for b.Loop() {
		sign.Verify(a, h, s)
	}
}
