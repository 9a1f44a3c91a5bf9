package slab_test

import (
	"math"
	"testing"

	"byname/api"
	"byname/slab"
)

// model is the chapter's words: rows of bytes, and all that was written, gone
// through from behind.
type model struct {
	kept    [][]byte
	at      []int
	written [][]byte
	limited bool
	budget  uint64
	down    bool
}

func newModel(slabs int) *model {
	m := &model{}
	for len(m.kept) < slabs && len(m.kept) < 4096 {
		m.kept = append(m.kept, make([]byte, 128))
	}
	return m
}

func (m *model) read(at int) ([]byte, api.Errno) {
	if at < 0 || at >= len(m.kept) {
		return make([]byte, 128), 131
	}
	for k := len(m.at) - 1; k >= 0; k-- {
		if m.at[k] == at {
			return m.written[k], 0
		}
	}
	return m.kept[at], 0
}

// off: is it DOWN, by now?
func (m *model) off() bool {
	switch {
	case m.down:
		return true
	case m.limited && m.budget == 0:
		m.down = true
		return true
	case m.limited:
		m.budget--
	}
	return false
}

func (m *model) write(at int, s api.Slab) api.Errno {
	if at < 0 || at >= len(m.kept) {
		return 131
	}
	if m.off() {
		return 132
	}
	m.at = append(m.at, at)
	m.written = append(m.written, append([]byte{}, s[:]...))
	return 0
}

func (m *model) sync() api.Errno {
	if m.off() {
		return 132
	}
	for at := range m.kept {
		m.kept[at], _ = m.read(at)
	}
	m.at, m.written = nil, nil
	return 0
}

func (m *model) setBudget(writes int) {
	m.limited, m.budget = false, 0
	if writes >= 0 {
		m.limited, m.budget = true, uint64(writes)
	}
}

func (m *model) restart(kept []byte) {
	for k, b := range m.written {
		if k == len(kept) {
			break
		}
		// In new memory, for a Sync has put what was written there.
		l := append([]byte{}, m.kept[m.at[k]]...)
		for i := range l {
			if i < int(kept[k]) {
				l[i] = b[i]
			}
		}
		m.kept[m.at[k]] = l
	}
	m.at, m.written = nil, nil
	m.limited, m.down = false, false
}

// both are a device, and what the chapter says of it.
type both struct {
	t *testing.T
	d *slab.Device
	m *model
}

func newBoth(t *testing.T, slabs int) both {
	t.Helper()
	w := both{t, slab.New(slabs), newModel(slabs)}
	w.hold()
	return w
}

// hold holds all that can be asked of the device against the model.
func (w both) hold() {
	w.t.Helper()
	if got := w.d.Size(); got != len(w.m.kept) {
		w.t.Fatalf("Size: %d, want %d", got, len(w.m.kept))
	}
	if got := w.d.Down(); got != w.m.down {
		w.t.Fatalf("Down: %t, want %t", got, w.m.down)
	}
	for at := -2; at < len(w.m.kept)+3; at++ {
		w.read(at)
	}
	w.read(math.MinInt)
	w.read(math.MaxInt)
}

func (w both) read(at int) {
	w.t.Helper()
	want, wantError := w.m.read(at)
	if got, e := w.d.Read(at); string(got[:]) != string(want) || e != wantError {
		w.t.Fatalf("Read of %d: %v, error %d, want %v, error %d", at, got, e, want, wantError)
	}
}

func (w both) write(at int, s api.Slab) api.Errno {
	w.t.Helper()
	got, want := w.d.Write(at, s), w.m.write(at, s)
	if got != want {
		w.t.Fatalf("Write of %d: error %d, want %d", at, got, want)
	}
	return got
}

func (w both) sync() api.Errno {
	w.t.Helper()
	got, want := w.d.Sync(), w.m.sync()
	if got != want {
		w.t.Fatalf("Sync: error %d, want %d", got, want)
	}
	return got
}

func (w both) budget(writes int) {
	w.d.Budget(writes)
	w.m.setBudget(writes)
}

func (w both) restart(kept ...byte) {
	w.d.Restart(kept)
	w.m.restart(kept)
}

// full is a slab of one byte.
func full(v byte) api.Slab {
	var s api.Slab
	for i := range s {
		s[i] = v
	}
	return s
}

// sample is a slab whose bytes are all told apart from their neighbours, and
// from those of another sample.
func sample(n int) api.Slab {
	var s api.Slab
	x := uint32(n)*2654435761 + 1
	for i := range s {
		x = x*1664525 + 1013904223
		s[i] = byte(x>>25)<<1 | byte(n+i)&1
	}
	return s
}

// torn is the first size bytes of s, and then those of under.
func torn(s, under api.Slab, size int) api.Slab {
	for i := range under {
		if i < size {
			under[i] = s[i]
		}
	}
	return under
}

// holds are what these slabs are to be, from 0 on.
func holds(t *testing.T, d *slab.Device, l ...api.Slab) {
	t.Helper()
	if d.Size() != len(l) {
		t.Fatalf("Size: %d, want %d", d.Size(), len(l))
	}
	for at, want := range l {
		if got, e := d.Read(at); got != want || e != 0 {
			t.Fatalf("Read of %d: %v, error %d, want %v", at, got, e, want)
		}
	}
}

// does is what a call is to tell.
func does(t *testing.T, what string, got, want api.Errno) {
	t.Helper()
	if got != want {
		t.Fatalf("%s: error %d, want %d", what, got, want)
	}
}
