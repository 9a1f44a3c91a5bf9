package script_test

import (
	"math/rand"
	"testing"

	"byname/api"
	"byname/script"
)

// holdModel holds a run against the model, and its stack, as far as words
// that ask for it have room behind the lock.
func holdModel(t *testing.T, unlock, lock []byte, known map[pair]bool) api.Errno {
	t.Helper()
	want, stack := (&model{signed: known}).run(unlock, lock)
	if got := script.Run(unlock, lock, deed); got != want {
		t.Fatalf("Run %q %q: %d, want %d", unlock, lock, got, want)
	}
	if got := script.Opens(unlock, lock, deed); got != (want == api.OK) {
		t.Fatalf("Opens %q %q: %t", unlock, lock, got)
	}
	if stack == nil {
		return want
	}
	asking := append([]byte{}, lock...)
	for i := len(stack) - 1; i >= 0; i-- {
		asking = append(script.Push(asking, []byte(stack[i])), 136)
	}
	asking = append(asking, 117)
	wanted, _ := (&model{signed: known}).run(unlock, asking)
	if got := script.Run(unlock, asking, deed); got != wanted {
		t.Fatalf("%q %q: error %d below the stack %q, want %d", unlock, lock, got, stack, wanted)
	}
	return want
}

// mixer makes scripts that go far often enough.
type mixer struct {
	*rand.Rand
	signers []signer
}

func (m mixer) pick(l ...[]byte) []byte { return l[m.Intn(len(l))] }

func (m mixer) piece() []byte {
	lengths := []int{0, 1, 1, 2, 20, 75, 76, 255, 256, 520}
	s := m.signers[m.Intn(len(m.signers))]
	return m.pick(nil, []byte{0}, []byte{1}, []byte{byte(m.Intn(256))}, []byte{0, 0}, []byte{0, 9},
		sample(lengths[m.Intn(len(lengths))]), s.point, s.signature, s.signature)
}

func (m mixer) push(b []byte) []byte {
	switch m.Intn(12) {
	case 0:
		return append(b, 0)
	case 1, 2:
		return append(b, byte(81+m.Intn(16)))
	case 3:
		s := m.signers[m.Intn(len(m.signers))]
		return script.Push(b, s.signature, s.point)
	case 4:
		return append(b, 77, 1, 0, byte(m.Intn(2)))
	case 5:
		return append(b, 76, 1, byte(m.Intn(2)))
	}
	return script.Push(b, m.piece())
}

// rare is what ends a run, mostly.
func (m mixer) rare(b []byte) []byte {
	switch m.Intn(7) {
	case 0:
		return append(b, byte(m.Intn(256)))
	case 1:
		return script.Push(b, sample(521))
	case 2:
		return append(b, 103)
	case 3:
		return append(b, 104)
	case 4:
		return append(b, repeated("\x61", 95+m.Intn(10))...)
	case 5:
		return append(b, repeated("\x51", 90+m.Intn(12))...)
	}
	return append(b, 106)
}

func (m mixer) words(b []byte, n, depth int) []byte {
	changing := []byte{97, 105, 109, 117, 118, 118, 120, 120, 124, 130, 135, 136, 168, 169, 172, 172, 173}
	for range n {
		switch k := m.Intn(20); {
		case k < 9:
			b = m.push(b)
		case k < 16:
			b = append(b, changing[m.Intn(len(changing))])
		case k < 19 && depth > 0:
			b = append(m.push(b), byte(99+m.Intn(2)))
			b = m.words(b, m.Intn(4), depth-1)
			for range m.Intn(3) {
				b = m.words(append(b, 103), m.Intn(3), depth-1)
			}
			b = append(b, 104)
		case m.Intn(8) == 0:
			b = m.rare(b)
		}
	}
	return b
}

// P7.2, P7.3: scripts of all kinds, beside the model; and each error comes
// often enough.
func TestMixed(t *testing.T) {
	m := mixer{rand.New(rand.NewSource(7)), []signer{newSigner(t, 1), newSigner(t, 2)}}
	known := signed(m.signers...)
	seen := map[api.Errno]int{}
	for range 30000 {
		var unlock []byte
		for range m.Intn(6) {
			unlock = m.push(unlock)
		}
		if m.Intn(30) == 0 {
			unlock = m.rare(unlock)
		}
		lock := m.words(nil, m.Intn(8), 3)
		if m.Intn(30) == 0 && len(lock) > 0 {
			lock = lock[:m.Intn(len(lock))]
		}
		seen[holdModel(t, unlock, lock, known)]++
	}
	for _, e := range []api.Errno{api.OK, api.ErrCode, api.ErrStack, api.ErrLimit, api.ErrFalse} {
		if seen[e] < 300 {
			t.Errorf("error %d came %d times only", e, seen[e])
		}
	}
}

// P7.3: rows of branches alone, one within the other and apart.
func TestMixedBranches(t *testing.T) {
	r := rand.New(rand.NewSource(70))
	words := []byte{99, 99, 100, 100, 103, 103, 104, 104, 104, 0, 81, 82, 83, 0x76, 0x75}
	for range 30000 {
		lock := []byte{0, 81, 0, 81}
		for range r.Intn(14) {
			lock = append(lock, words[r.Intn(len(words))])
		}
		open := 0
		for _, b := range lock {
			switch b {
			case 99, 100:
				open++
			case 104:
				open--
			}
		}
		for range max(open, 0) {
			lock = append(lock, 104)
		}
		holdModel(t, nil, lock, nil)
	}
}

func FuzzRun(f *testing.F) {
	one := newSigner(f, 1)
	known := signed(one)
	f.Add([]byte{}, []byte{81})
	f.Add(script.Push(nil, one.signature, one.point), []byte{118, 169, 117, 172})
	f.Add([]byte{81, 0}, []byte{99, 255, 99, 103, 104, 104, 81})
	f.Add([]byte{2, 'a', 'b'}, []byte{130, 82, 136, 124, 120, 109})
	f.Add([]byte{0}, []byte{100, 82, 103, 106, 104})
	f.Fuzz(func(t *testing.T, unlock, lock []byte) { holdModel(t, unlock, lock, known) })
}
