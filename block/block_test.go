package block_test

import (
	"math/rand"
	"slices"
	"testing"

	"byname/api"
	"byname/block"
	"byname/tx"
)

// Errors, Types: the numbers that the chapter gives.
func TestNumbers(t *testing.T) {
	if api.ErrBlock != 111 || api.ErrTx != 101 || api.ErrMoney != 91 || api.ErrShort != 61 || api.ErrForm != 62 || api.OK != 0 {
		t.Error(api.ErrBlock, api.ErrTx, api.ErrMoney, api.ErrShort, api.ErrForm, api.OK)
	}
	if api.MaxBlock != 20000 || api.HashSize != 32 {
		t.Error(api.MaxBlock, api.HashSize)
	}
}

// P11.2, Examples: of no hashes noughts, of one that.
func TestRootFew(t *testing.T) {
	for _, l := range [][]api.Hash{nil, {}, hashes(3)[:0]} {
		if root, twins := block.Root(l); root != (api.Hash{}) || twins {
			t.Error(root, twins)
		}
	}
	for _, h := range append(hashes(3), api.Hash{}) {
		if root, twins := block.Root([]api.Hash{h}); root != h || twins {
			t.Error(root, twins)
		}
	}
	b := rooted(base())
	if root, twins := block.Root(block.Ids(b)); root != tx.Id(base()) || twins {
		t.Error(root, twins)
	}
}

// P11.2: roots, put together by hand.
func TestRootWritten(t *testing.T) {
	l := hashes(7)
	a, b, c, d, e, f, g := l[0], l[1], l[2], l[3], l[4], l[5], l[6]
	both := func(x, y api.Hash) api.Hash { return twiceReference(x[:], y[:]) }
	ab, cd, ef := both(a, b), both(c, d), both(e, f)
	ee, gg := both(e, e), both(g, g)
	for i, k := range []struct {
		l     []api.Hash
		root  api.Hash
		twins bool
	}{
		{l[:2], ab, false},
		{[]api.Hash{b, a}, both(b, a), false},
		{l[:3], both(ab, both(c, c)), false},
		{l[:4], both(ab, cd), false},
		{l[:5], both(both(ab, cd), both(ee, ee)), false},
		{l[:6], both(both(ab, cd), both(ef, ef)), false},
		{l[:7], both(both(ab, cd), both(ef, gg)), false},

		// Two that are the same, where one of them alone has the same Root.
		{[]api.Hash{a, a}, both(a, a), true},
		{[]api.Hash{a, b, c, c}, both(ab, both(c, c)), true},
		{[]api.Hash{a, b, c, d, e, e}, both(both(ab, cd), both(ee, ee)), true},
		{[]api.Hash{a, b, c, d, e, f, e, f}, both(both(ab, cd), both(ef, ef)), true},
		{[]api.Hash{a, b, c, d, e, e, e, e}, both(both(ab, cd), both(ee, ee)), true},
		{[]api.Hash{a, b, c, d, e, f, g, g}, both(both(ab, cd), both(ef, gg)), true},
		{[]api.Hash{a, b, a, b}, both(ab, ab), true},
		{[]api.Hash{a, a, b, c}, both(both(a, a), both(b, c)), true},
		{[]api.Hash{a, a, b}, both(both(a, a), both(b, b)), true},
		{[]api.Hash{a, a, a}, both(both(a, a), both(a, a)), true},
		{[]api.Hash{a, b, c, d, a, b, c, d}, both(both(ab, cd), both(ab, cd)), true},

		// The same, but they never stand together.
		{[]api.Hash{a, b, b}, both(ab, both(b, b)), false},
		{[]api.Hash{a, b, b, c}, both(ab, both(b, c)), false},
		{[]api.Hash{a, b, a}, both(ab, both(a, a)), false},
		{[]api.Hash{a, b, b, a}, both(ab, both(b, a)), false},
		{[]api.Hash{a, b, c, d, a, b}, both(both(ab, cd), both(ab, ab)), false},
		{[]api.Hash{a, b, c, d, c, d, a, b}, both(both(ab, cd), both(cd, ab)), false},
	} {
		root, twins := block.Root(k.l)
		if root != k.root || twins != k.twins {
			t.Errorf("%d: %x, %t, want %x, %t", i, root, twins, k.root, k.twins)
		}
		holdRoot(t, k.l)
	}
}

// P11.2: a Root that is known elsewhere.
func TestRootPublished(t *testing.T) {
	var l []api.Hash
	for _, s := range []string{
		"8c14f0db3df150123e6f3dbbf30f8b955a8249b62ac1d1ff16284aefa3d06d87",
		"fff2525b8931402dd09222c50775608f75787bd2b87e56995a7bdd30f79702c4",
		"6359f0868171b1d194cbee1af2f16ea598ae8fad666d9b012c8ed2b79a236ec4",
		"e9a66845e05d5abc0ad04ec80f774a7e585c6e8db975962d069a522137b80c1d",
	} {
		l = append(l, backward(t, s))
	}
	if root, twins := holdRoot(t, l); root != backward(t, "f3e94742aca4b5ef85488dc37c06c3282295ffec960994b2c0d5ac2a25a95766") || twins {
		t.Errorf("%x, %t", root, twins)
	}
}

// P11.2: of any number of them.
func TestRootLengths(t *testing.T) {
	l := hashes(1 << 16)
	for _, n := range []int{1 << 12, 1<<12 + 1, 1<<16 - 1, 1 << 16} {
		if _, twins := holdRoot(t, l[:n]); twins {
			t.Error(n)
		}
	}
	seen := map[api.Hash]int{}
	for n := range 300 {
		root, twins := holdRoot(t, l[:n])
		seen[root]++
		if twins {
			t.Error(n)
		}
	}
	if len(seen) != 300 {
		t.Errorf("%d Roots", len(seen))
	}
}

// P11.2: two that are the same, wherever they stand.
func TestRootTwins(t *testing.T) {
	for _, n := range []int{2, 3, 4, 5, 6, 7, 8, 9, 15, 16, 17, 33} {
		for j := range n {
			for i := range j {
				l := hashes(n)
				l[j] = l[i]
				if _, twins := holdRoot(t, l); twins != (i%2 == 0 && j == i+1) {
					t.Errorf("%d, %d of %d: %t", i, j, n, twins)
				}
			}
		}
	}
	// Rows of 2, 4, 8 .. that stand twice, wherever they begin.
	for size := 1; size <= 16; size *= 2 {
		for from := range 64 - 2*size {
			l := hashes(64)
			copy(l[from+size:], l[from:from+size])
			if _, twins := holdRoot(t, l); twins != (from%(2*size) == 0) {
				t.Errorf("%d from %d: %t", size, from, twins)
			}
		}
	}
}

// P11.2: what is put behind, so that the Root stays the same, is told.
func TestRootStays(t *testing.T) {
	for n := 2; n < 70; n++ {
		l := hashes(n)
		root, _ := block.Root(l)
		size := 1
		for n%(2*size) == 0 {
			size *= 2
		}
		if size == n {
			continue
		}
		longer := append(l, l[n-size:]...)
		again, twins := holdRoot(t, longer)
		if again != root || !twins {
			t.Errorf("%d and %d more: %t, %t", n, size, again == root, twins)
		}
	}
}

// P11.2: mixed rows of few hashes, beside the reference.
func TestRootMixed(t *testing.T) {
	r := rand.New(rand.NewSource(112))
	seen := [2]int{}
	for range 20000 {
		few := hashes(2 + r.Intn(30))
		var l []api.Hash
		for range r.Intn(20) {
			l = append(l, few[r.Intn(len(few))])
		}
		if r.Intn(3) == 0 {
			l = append(l, l...)
		}
		if _, twins := holdRoot(t, l); twins {
			seen[1]++
		} else {
			seen[0]++
		}
	}
	if seen[0] < 1000 || seen[1] < 1000 {
		t.Error(seen)
	}
}

// P11.3: each transaction's Id, in order.
func TestIds(t *testing.T) {
	for _, n := range []int{0, 1, 2, 3, 7, 100, 101, 300} {
		b := many(n)
		ids := block.Ids(b)
		if len(ids) != n {
			t.Fatalf("%d: %d", n, len(ids))
		}
		for i, id := range ids {
			if id != tx.Id(b.Txs[i]) || id != twiceReference(tx.Bytes(b.Txs[i])) {
				t.Errorf("%d of %d: %x", i, n, id)
			}
		}
	}
	ids := block.Ids(api.Block{Txs: []api.Tx{spend(2), {}, spend(2), base()}})
	if want := []api.Hash{tx.Id(spend(2)), tx.Id(api.Tx{}), tx.Id(spend(2)), tx.Id(base())}; !slices.Equal(ids, want) {
		t.Errorf("%x", ids)
	}
	for _, l := range [][]api.Tx{nil, {}} {
		if ids := block.Ids(api.Block{Head: head(), Txs: l}); len(ids) != 0 {
			t.Errorf("%x", ids)
		}
	}
}

// but is t with a change.
func but(change func(t *api.Tx), t api.Tx) api.Tx {
	change(&t)
	return t
}

// poor tells ErrMoney by itself, wrong ErrTx.
func poor(n int) api.Tx { return but(func(t *api.Tx) { t.Outs[0].Value = -1 }, spend(n)) }

func wrong(n int) api.Tx { return but(func(t *api.Tx) { t.Outs = nil }, spend(n)) }

// P11.4: what can be, and what can't, by one thing each.
func TestCheckWritten(t *testing.T) {
	spoilt := func(change func(b *api.Block)) api.Block {
		b := plain()
		change(&b)
		return b
	}
	twoIns := but(func(t *api.Tx) { t.Ins = append(t.Ins, t.Ins[0]) }, base())
	badBase := but(func(t *api.Tx) { t.Ins[0].Unlock = nil }, base())
	for i, c := range []struct {
		b api.Block
		e api.Errno
	}{
		{plain(), 0},
		{rooted(base()), 0},
		{rooted(base(), spend(1)), 0},
		{many(100), 0},
		{api.Block{}, 111},
		{rooted(), 111},
		{api.Block{Head: head(), Txs: []api.Tx{}}, 111},

		{rooted(spend(1)), 111},
		{rooted(spend(1), spend(2)), 111},
		{rooted(spend(1), base()), 111},
		{rooted(base(), base()), 111},
		{rooted(base(), spend(1), base()), 111},
		{rooted(base(), spend(1), spend(2), base(), spend(3)), 111},
		{rooted(base(), spend(1), but(func(t *api.Tx) { t.Version = 9 }, base())), 111},
		{rooted(twoIns), 111},
		{rooted(base(), twoIns), 101},

		{rooted(badBase), 101},
		{rooted(badBase, spend(1)), 101},
		{rooted(base(), wrong(1)), 101},
		{rooted(base(), poor(1)), 91},
		{rooted(base(), spend(1), wrong(2)), 101},
		{rooted(base(), spend(1), spend(2), poor(3)), 91},
		{rooted(but(func(t *api.Tx) { t.Outs[0].Value = api.MaxMoney + 1 }, base())), 91},
		{rooted(but(func(t *api.Tx) { t.Outs[0].Value = api.MaxMoney }, base())), 0},
		{rooted(but(func(t *api.Tx) { t.Outs = nil }, base())), 101},
		{rooted(base(), but(func(t *api.Tx) { t.Outs[0].Lock = sample(5000) }, spend(1))), 101},

		{spoilt(func(b *api.Block) { b.Head.Root = api.Hash{} }), 111},
		{spoilt(func(b *api.Block) { b.Head.Root = tx.Id(base()) }), 111},
		{spoilt(func(b *api.Block) { b.Txs[1], b.Txs[2] = b.Txs[2], b.Txs[1] }), 111},
		{spoilt(func(b *api.Block) { b.Txs = b.Txs[:2] }), 111},
		{spoilt(func(b *api.Block) { b.Txs[0].Ins[0].Unlock[1]++ }), 111},
		{spoilt(func(b *api.Block) { b.Head = rooted(base()).Head }), 111},
		// All else in the head counts nothing here.
		{spoilt(func(b *api.Block) { b.Head = api.Head{Root: b.Head.Root} }), 0},
		{spoilt(func(b *api.Block) { b.Head.Prev, b.Head.Bits = b.Head.Root, 0xFFFFFFFF }), 0},

		// Two that were the same.
		{rooted(base(), spend(1), spend(1)), 0},
		{rooted(base(), spend(1), spend(2), spend(2)), 111},
		{rooted(base(), spend(1), spend(1), spend(2)), 0},
		{rooted(base(), spend(1), spend(1), spend(1)), 111},
		{rooted(base(), spend(1), spend(2), spend(1)), 0},
		{rooted(base(), spend(1), spend(2), spend(3), spend(2), spend(3)), 0},
		{rooted(base(), spend(1), spend(2), spend(3), spend(4), spend(5), spend(4), spend(5)), 111},
		{rooted(base(), spend(1), spend(2), spend(3), spend(3), spend(4), spend(4), spend(5)), 0},
		{rooted(base(), spend(1), spend(2), spend(3), spend(4), spend(4)), 111},
	} {
		if got := block.Check(c.b); got != c.e {
			t.Errorf("%d: error %d, want %d", i, got, c.e)
		}
		holdAll(t, c.b)
	}
}

// P11.4: each bit of the Root counts.
func TestCheckRoot(t *testing.T) {
	for at := range 32 {
		for bit := range 8 {
			b := plain()
			b.Head.Root[at] ^= 1 << bit
			if got := block.Check(b); got != api.ErrBlock {
				t.Errorf("%d, %d: error %d", at, bit, got)
			}
		}
	}
}

// P11.4: which error is told, of two: ErrBlock of what a block is made of,
// that of the first transaction that has one, ErrBlock of the Root.
func TestCheckOrder(t *testing.T) {
	unrooted := func(b api.Block) api.Block {
		b.Head.Root[7]++
		return b
	}
	// Each of these has more than 5000 bytes.
	heavy := func(n int) api.Tx {
		return but(func(t *api.Tx) { t.Outs[0].Lock = sample(6000) }, spend(n))
	}
	for i, c := range []struct {
		b api.Block
		e api.Errno
	}{
		{rooted(poor(1)), 111},
		{rooted(poor(1), spend(2)), 111},
		{rooted(wrong(1), base()), 111},
		{rooted(api.Tx{}), 111},
		{rooted(base(), poor(1), base()), 111},
		{rooted(base(), wrong(1), base()), 111},
		{rooted(base(), heavy(1), heavy(2), heavy(3)), 101},
		{rooted(base(), heavy(1), heavy(2), heavy(3), heavy(4)), 111},
		{rooted(base(), poor(1), heavy(2), heavy(3), heavy(4)), 91},
		{rooted(base(), poor(1), heavy(2), heavy(3), heavy(4), heavy(5)), 111},

		{rooted(base(), poor(1), wrong(2)), 91},
		{rooted(base(), wrong(1), poor(2)), 101},
		{rooted(base(), spend(1), poor(2), spend(3), wrong(4)), 91},
		{rooted(base(), spend(1), wrong(2), spend(3), poor(4)), 101},
		{rooted(but(func(t *api.Tx) { t.Outs[0].Value = -1 }, base()), wrong(1)), 91},
		{rooted(but(func(t *api.Tx) { t.Ins[0].Unlock = nil }, base()), poor(1)), 101},

		{unrooted(rooted(base(), poor(1))), 91},
		{unrooted(rooted(base(), spend(1), wrong(2))), 101},
		{rooted(base(), poor(1), spend(2), spend(2)), 91},
		{rooted(base(), spend(1), poor(2), poor(2)), 91},
		{rooted(base(), spend(1), wrong(2), wrong(2)), 101},
		{unrooted(rooted(base(), spend(1), spend(2), spend(2))), 111},
	} {
		if got := block.Check(c.b); got != c.e {
			t.Errorf("%d: error %d, want %d", i, got, c.e)
		}
		holdAll(t, c.b)
	}
}

// P11.4: how long one may be: up to MaxBlock, wherever its bytes are.
func TestCheckLength(t *testing.T) {
	for size, want := range map[int]api.Errno{19998: 0, 19999: 0, 20000: 0, 20001: 111, 20002: 111, 24000: 111} {
		l := []api.Tx{base()}
		for i := range 5 {
			l = append(l, but(func(t *api.Tx) { t.Outs[0].Lock = sample(3800) }, spend(i)))
		}
		last := &l[5]
		last.Outs[0].Lock = sample(3800 + size - len(bytesReference(rooted(l...))))
		if tx.Check(*last) != api.OK && size < 24000 {
			t.Fatalf("%d: too long by itself", size)
		}
		b := rooted(l...)
		if n := len(block.Bytes(b)); n != size {
			t.Fatalf("%d bytes, want %d", n, size)
		}
		if got := block.Check(b); got != want {
			t.Errorf("%d bytes: error %d, want %d", size, got, want)
		}
		holdAll(t, b)
	}
}

// P11.4: its bytes count, not how many transactions there are.
func TestCheckMany(t *testing.T) {
	seen := map[api.Errno]int{}
	for n := 1; n < 350; n++ {
		b := many(n)
		want := api.OK
		if len(bytesReference(b)) > 20000 {
			want = api.ErrBlock
		}
		if got := block.Check(b); got != want {
			t.Errorf("%d transactions: error %d, want %d", n, got, want)
		}
		seen[want]++
	}
	if seen[api.OK] < 250 || seen[api.ErrBlock] < 20 {
		t.Error(seen)
	}
}

// P11.1 to P11.4: mixed blocks, beside the reference.
func TestMixed(t *testing.T) {
	r := rand.New(rand.NewSource(113))
	seen := map[api.Errno]int{}
	for range 10000 {
		b := mixed(r)
		seen[holdAll(t, b)]++
		holdParse(t, bytesReference(b))
	}
	if len(seen) != 4 || seen[0] < 500 || seen[91] < 100 || seen[101] < 100 || seen[111] < 500 {
		t.Error(seen)
	}
}

func FuzzRoot(f *testing.F) {
	f.Add([]byte{}, uint8(3))
	f.Add([]byte{1, 2, 3, 3}, uint8(0))
	f.Add([]byte{1, 2, 1, 2, 1, 2}, uint8(255))
	f.Add(sample(200), uint8(15))
	f.Fuzz(func(t *testing.T, kinds []byte, mask uint8) {
		var l []api.Hash
		for _, kind := range kinds {
			l = append(l, api.Hash{kind & mask, 31: 1})
		}
		holdRoot(t, l)
	})
}
