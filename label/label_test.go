package label_test

import (
	"math"
	"strings"
	"testing"

	"byname/api"
	"byname/label"
)

func commitOf(n int) api.Short { return api.Short(sample(n + 20)[n:]) }

// kinds are those that there are, and numbers that are none, also such as
// would be one of them in fewer bits.
var kinds = []int{0, 1, 2, 3, 4, 5, -1, -2, -3, 80, 81, 82, 83, 255, 256, 257, 258, 259, -253, -254, -255, 65537, 65538,
	1 << 32, 1<<32 + 1, 1<<32 + 2, 1<<32 + 3, math.MinInt, math.MinInt + 1, math.MinInt + 2, math.MaxInt}

// edges are the lengths about which something changes: a limit, or the form of
// a push.
var edges = []int{0, 1, 2, 19, 20, 21, 31, 32, 33, 63, 64, 65, 74, 75, 76, 77, 199, 200, 201, 254, 255, 256, 257, 300, 520, 521}

// deeds are those of all kinds, with parts of all lengths at the edges: right
// ones, and more that aren't.
func deeds() []api.Deed {
	var l []api.Deed
	for _, kind := range kinds {
		for _, commit := range []api.Short{{}, {19: 1}, {1}, commitOf(3)} {
			for _, n := range edges {
				l = append(l,
					api.Deed{Kind: kind, Commit: commit},
					api.Deed{Kind: kind, Commit: commit, Name: text(n)},
					api.Deed{Kind: kind, Commit: commit, Value: text(n)},
					api.Deed{Kind: kind, Commit: commit, Rand: text(n)},
					api.Deed{Kind: kind, Commit: commit, Name: text(n), Value: "v"},
					api.Deed{Kind: kind, Commit: commit, Name: "n", Value: text(n)},
					api.Deed{Kind: kind, Commit: commit, Name: "n", Rand: text(n)},
					api.Deed{Kind: kind, Commit: commit, Name: text(n), Rand: "r"},
					api.Deed{Kind: kind, Commit: commit, Name: text(n), Rand: "r", Value: "v"},
					api.Deed{Kind: kind, Commit: commit, Name: "n", Rand: text(n), Value: "v"},
					api.Deed{Kind: kind, Commit: commit, Name: "n", Rand: "r", Value: text(n)},
					api.Deed{Kind: kind, Commit: commit, Rand: text(n), Value: text(n)},
					api.Deed{Kind: kind, Commit: commit, Name: text(min(n, 64)), Rand: text(min(n, 32)), Value: text(n)},
				)
			}
		}
	}
	return l
}

// Errors, Types: the numbers that the chapter gives.
func TestNumbers(t *testing.T) {
	if api.ErrLabel != 81 {
		t.Error(api.ErrLabel)
	}
	if api.NameNone != 0 || api.NameNew != 1 || api.NameFirst != 2 || api.NameUpdate != 3 {
		t.Error(api.NameNone, api.NameNew, api.NameFirst, api.NameUpdate)
	}
	if api.MaxName != 64 || api.MaxRand != 32 || api.MaxValue != 200 || len(api.Deed{}.Commit) != 20 {
		t.Error(api.MaxName, api.MaxRand, api.MaxValue, len(api.Deed{}.Commit))
	}
}

// P8.1: what is right, written out.
func TestRightWritten(t *testing.T) {
	n64, n65 := strings.Repeat("n", 64), strings.Repeat("n", 65)
	r32, r33 := strings.Repeat("r", 32), strings.Repeat("r", 33)
	v200, v201 := strings.Repeat("v", 200), strings.Repeat("v", 201)
	for i, c := range []struct {
		d    api.Deed
		want bool
	}{
		{api.Deed{}, true},
		{api.Deed{Name: "a"}, false},
		{api.Deed{Value: "a"}, false},
		{api.Deed{Rand: "a"}, false},
		{api.Deed{Commit: api.Short{19: 1}}, false},
		{api.Deed{Kind: 1}, true},
		{api.Deed{Kind: 1, Commit: api.Short{7: 1}}, true},
		{api.Deed{Kind: 1, Name: "a"}, false},
		{api.Deed{Kind: 1, Value: "a"}, false},
		{api.Deed{Kind: 1, Rand: "a"}, false},
		{api.Deed{Kind: 2, Name: "n", Rand: "r"}, true},
		{api.Deed{Kind: 2, Name: n64, Rand: r32, Value: v200}, true},
		{api.Deed{Kind: 2, Name: n65, Rand: r32, Value: v200}, false},
		{api.Deed{Kind: 2, Name: n64, Rand: r33, Value: v200}, false},
		{api.Deed{Kind: 2, Name: n64, Rand: r32, Value: v201}, false},
		{api.Deed{Kind: 2, Rand: "r", Value: "v"}, false},
		{api.Deed{Kind: 2, Name: "n", Value: "v"}, false},
		{api.Deed{Kind: 2, Name: "n", Rand: "r", Value: "v", Commit: api.Short{1}}, false},
		{api.Deed{Kind: 2, Name: "\x00\xff", Rand: "\x80", Value: "\xc0\x00"}, true},
		{api.Deed{Kind: 3, Name: "n"}, true},
		{api.Deed{Kind: 3, Name: n64, Value: v200}, true},
		{api.Deed{Kind: 3, Name: n65, Value: v200}, false},
		{api.Deed{Kind: 3, Name: n64, Value: v201}, false},
		{api.Deed{Kind: 3, Value: "v"}, false},
		{api.Deed{Kind: 3, Name: "n", Rand: "r"}, false},
		{api.Deed{Kind: 3, Name: "n", Commit: api.Short{1}}, false},
		{api.Deed{Kind: 4}, false},
		{api.Deed{Kind: -1}, false},
		{api.Deed{Kind: 4, Name: "n", Value: "v"}, false},
		{api.Deed{Kind: 257}, false},
		// Bytes count, not what they stand for.
		{api.Deed{Kind: 3, Name: strings.Repeat("ü", 32), Value: strings.Repeat("ü", 100)}, true},
		{api.Deed{Kind: 3, Name: strings.Repeat("ü", 33)}, false},
		{api.Deed{Kind: 3, Name: "n", Value: strings.Repeat("ü", 101)}, false},
	} {
		if got := label.Right(c.d); got != c.want {
			t.Errorf("%d: %+v: %t", i, c.d, got)
		}
	}
}

// P8.1: all kinds and edges, beside the reference.
func TestRight(t *testing.T) {
	right := map[int]int{}
	for _, d := range deeds() {
		got := label.Right(d)
		if got != rightReference(d) {
			t.Fatalf("%+v: %t", d, got)
		}
		if got {
			right[d.Kind]++
		}
	}
	for kind := range 4 {
		if right[kind] == 0 {
			t.Errorf("kind %d: never right", kind)
		}
	}
	if len(right) != 4 {
		t.Errorf("right ones of the kinds %v", right)
	}
}

// P8.1: the kind alone tells, right or not.
func TestNamed(t *testing.T) {
	for _, d := range deeds() {
		if got := label.Named(d); got != (d.Kind == 2 || d.Kind == 3) {
			t.Fatalf("%+v: %t", d, got)
		}
	}
}

// P8.1: beside the library's sums; rand comes ahead of the name, and nothing
// between them.
func TestCommit(t *testing.T) {
	for _, n := range append(edges, 55, 56, 119, 120, 128, 5000) {
		for _, m := range append(edges, 54, 57, 118) {
			rand, name := text(n), text(m)
			if got := label.Commit(rand, name); got != commitReference(rand, name) {
				t.Fatalf("Commit of %d and %d bytes: %v", n, m, got)
			}
		}
	}
	all := "salt and d/name"
	want := commitReference("", all)
	for i := range len(all) + 1 {
		if got := label.Commit(all[:i], all[i:]); got != want {
			t.Errorf("parted at %d: %v, want %v", i, got, want)
		}
	}
	if label.Commit("a", "b") == label.Commit("b", "a") {
		t.Error("the order doesn't count")
	}
	// Twice SHA-256 of no bytes: 5df6e0e2 761359d3 0a827505 8e299fcc 03815345 ..
	empty := api.Short{0x5d, 0xf6, 0xe0, 0xe2, 0x76, 0x13, 0x59, 0xd3, 0x0a, 0x82, 0x75, 0x05, 0x8e, 0x29, 0x9f, 0xcc, 0x03, 0x81, 0x53, 0x45}
	if got := label.Commit("", ""); got != empty {
		t.Errorf("of nothing: %x", got)
	}
}
