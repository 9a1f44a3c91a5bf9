package script_test

import (
	"bytes"
	"testing"

	"byname/api"
	"byname/curve"
	"byname/digest"
	"byname/field"
	"byname/script"
	"byname/sign"
	"byname/wide"
)

var deed = digest.Sum([]byte("a deed"))

// signer is a secret's point and its signature of deed, both as bytes.
type signer struct {
	point, signature []byte
}

func newSigner(t testing.TB, secret uint64) signer {
	t.Helper()
	a, e := sign.Public(wide.Of(secret))
	if e != api.OK {
		t.Fatal(e)
	}
	s, e := sign.Sign(wide.Of(secret), deed, wide.Of(secret+1000))
	if e != api.OK {
		t.Fatal(e)
	}
	return signer{curve.Bytes(a), sign.Bytes(s)}
}

// signed is all that verifies, of some signers, with deed.
func signed(l ...signer) map[pair]bool {
	all := map[pair]bool{}
	for _, s := range l {
		all[pair{string(s.signature), string(s.point)}] = true
	}
	return all
}

// high is the signature with the other S, which is above half of N.
func high(t *testing.T, signature []byte) []byte {
	t.Helper()
	s, e := sign.Parse(signature)
	if e != api.OK {
		t.Fatal(e)
	}
	s.S = field.N().Sub(api.Wide{}, s.S)
	return sign.Bytes(s)
}

// forged is a signature that would verify by a point that is None, if that
// were asked.
func forged(t *testing.T) []byte {
	t.Helper()
	n, k := field.N(), wide.Of(99)
	inverse, e := n.Inv(k)
	if e != api.OK {
		t.Fatal(e)
	}
	s := n.Mul(wide.From(deed), inverse)
	if half := wide.Right(n.Modulus(), 1); wide.Less(half, s) {
		s = n.Sub(api.Wide{}, s)
	}
	r := curve.Times(k, curve.Base()).X
	return sign.Bytes(api.Sig{R: n.Fold(r, api.Wide{}), S: s})
}

func changed(b []byte, at int) []byte {
	b = bytes.Clone(b)
	b[at] ^= 1
	return b
}

// P7.3: 172 and 173, by signatures and points that are right, and by such as
// aren't, or are none.
func TestSigned(t *testing.T) {
	one, other := newSigner(t, 77), newSigner(t, 78)
	for _, c := range []struct {
		name             string
		signature, point []byte
		want             bool
	}{
		{"right", one.signature, one.point, true},
		{"right, another", other.signature, other.point, true},
		{"somebody else's", other.signature, one.point, false},
		{"somebody else's point", one.signature, other.point, false},
		{"changed places", one.point, one.signature, false},
		{"a changed R", changed(one.signature, 31), one.point, false},
		{"a changed S", changed(one.signature, 63), one.point, false},
		{"the other Y", one.signature, changed(one.point, 0), false},
		{"another X", one.signature, changed(one.point, 32), false},
		{"a high S", high(t, one.signature), one.point, false},
		{"a byte less of a signature", one.signature[:63], one.point, false},
		{"a byte more of a signature", append(bytes.Clone(one.signature), 0), one.point, false},
		{"a byte ahead of a signature", append([]byte{0}, one.signature...), one.point, false},
		{"no signature", nil, one.point, false},
		{"a signature of noughts", make([]byte, 64), one.point, false},
		{"a byte less of a point", one.signature, one.point[:32], false},
		{"a byte more of a point", one.signature, append(bytes.Clone(one.point), 0), false},
		{"no point", one.signature, nil, false},
		{"a point of noughts", one.signature, make([]byte, 33), false},
		{"a point that is None", one.signature, []byte{0}, false},
		{"a point that is None, forged", forged(t), []byte{0}, false},
		{"neither", nil, nil, false},
	} {
		t.Run(c.name, func(t *testing.T) {
			unlock := script.Push(nil, []byte("below"), c.signature, c.point)
			top, checked := "", api.ErrFalse
			if c.want {
				top, checked = "\x01", api.OK
			}
			holdStack(t, unlock, []byte{172}, deed, "below", top)
			if e := script.Run(unlock, []byte{173}, deed); e != checked {
				t.Errorf("173: error %d, want %d", e, checked)
			}
			if c.want {
				holdStack(t, unlock, []byte{173}, deed, "below")
			}
			another := digest.Sum(deed[:])
			holdStack(t, unlock, []byte{172}, another, "below", "")
			if e := script.Run(unlock, []byte{173, 81}, another); e != api.ErrFalse {
				t.Errorf("173 of another hash: error %d", e)
			}
			if script.Opens(unlock, []byte{172}, api.Hash{}) || script.Opens(unlock, []byte{173}, api.Hash{}) {
				t.Error("opens by a hash of noughts")
			}
		})
	}
}

// P7.4: written out.
func TestPayToWritten(t *testing.T) {
	for _, a := range []api.Short{{}, {1}, digest.Short([]byte("abc")), api.Short(bytes.Repeat([]byte{255}, 20))} {
		want := append(append([]byte{118, 169, 20}, a[:]...), 136, 172)
		got := script.PayTo(a)
		if !bytes.Equal(got, want) {
			t.Errorf("PayTo %v: %v, want %v", a, got, want)
		}
		filled(got, 0xAA)
		if again := script.PayTo(a); !bytes.Equal(again, want) {
			t.Errorf("PayTo %v again: %v, want %v", a, again, want)
		}
	}
}

// P7.4: it opens by the signature of its secret, and by nothing else.
func TestPayTo(t *testing.T) {
	for secret := range uint64(4) {
		one, other := newSigner(t, 2*secret+1), newSigner(t, 2*secret+2)
		lock := script.PayTo(digest.Short(one.point))
		for _, c := range []struct {
			name   string
			unlock []byte
			want   api.Errno
		}{
			{"its own", script.Push(nil, one.signature, one.point), api.OK},
			{"with more below", script.Push(nil, nil, []byte("x"), one.signature, one.point), api.OK},
			{"somebody else's", script.Push(nil, other.signature, other.point), api.ErrFalse},
			{"somebody else's signature", script.Push(nil, other.signature, one.point), api.ErrFalse},
			{"somebody else's point", script.Push(nil, one.signature, other.point), api.ErrFalse},
			{"changed places", script.Push(nil, one.point, one.signature), api.ErrFalse},
			{"a signature without bytes", script.Push(nil, nil, one.point), api.ErrFalse},
			{"a signature alone", script.Push(nil, one.signature), api.ErrFalse},
			{"a point alone", script.Push(nil, one.point), api.ErrStack},
			{"nothing", nil, api.ErrStack},
			{"a word behind", append(script.Push(nil, one.signature, one.point), 97), api.ErrCode},
			{"a byte less", script.Push(nil, one.signature, one.point)[:98], api.ErrCode},
			{"true", []byte{81}, api.ErrFalse},
			{"a point that is None", script.Push(nil, forged(t), []byte{0}), api.ErrFalse},
		} {
			if e := script.Run(c.unlock, lock, deed); e != c.want {
				t.Errorf("%s: error %d, want %d", c.name, e, c.want)
			}
			if got := script.Opens(c.unlock, lock, deed); got != (c.want == api.OK) {
				t.Errorf("%s: opens: %t", c.name, got)
			}
			if script.Opens(c.unlock, lock, digest.Sum([]byte("another deed"))) {
				t.Errorf("%s: opens by another hash", c.name)
			}
		}
	}
	// A lock of None's bytes opens by nothing: None verifies no signature.
	lock := script.PayTo(digest.Short([]byte{0}))
	if e := script.Run(script.Push(nil, forged(t), []byte{0}), lock, deed); e != api.ErrFalse {
		t.Errorf("a lock of None: error %d", e)
	}
}

// P7.3: locks of several parts: both of two, one or the other, and a word that
// is known beside a signature.
func TestLocks(t *testing.T) {
	one, other := newSigner(t, 5), newSigner(t, 6)
	both := joined(script.Push(nil, one.point), []byte{173}, script.Push(nil, other.point), []byte{172})
	either := joined([]byte{99}, script.Push(nil, one.point), []byte{103}, script.Push(nil, other.point), []byte{104, 172})
	sum := digest.Sum([]byte("word"))
	known := joined([]byte{168}, script.Push(nil, sum[:]), []byte{136}, script.Push(nil, one.point), []byte{172})
	for _, c := range []struct {
		name         string
		unlock, lock []byte
		want         api.Errno
	}{
		{"both", script.Push(nil, other.signature, one.signature), both, api.OK},
		{"both, changed places", script.Push(nil, one.signature, other.signature), both, api.ErrFalse},
		{"both, one twice", script.Push(nil, one.signature, one.signature), both, api.ErrFalse},
		{"both, one alone", script.Push(nil, one.signature), both, api.ErrStack},
		{"either, the first", append(script.Push(nil, one.signature), 81), either, api.OK},
		{"either, the second", append(script.Push(nil, other.signature), 0), either, api.OK},
		{"either, not the first", append(script.Push(nil, other.signature), 81), either, api.ErrFalse},
		{"either, not the second", append(script.Push(nil, one.signature), 0), either, api.ErrFalse},
		{"known", script.Push(nil, one.signature, []byte("word")), known, api.OK},
		{"known, another word", script.Push(nil, one.signature, []byte("ward")), known, api.ErrFalse},
		{"known, another signature", script.Push(nil, other.signature, []byte("word")), known, api.ErrFalse},
	} {
		if e := script.Run(c.unlock, c.lock, deed); e != c.want {
			t.Errorf("%s: error %d, want %d", c.name, e, c.want)
		}
	}
}
