package file

import (
	"slices"
	"testing"

	"mailbag/api"
	"mailbag/inode"
	"mailbag/wal"
)

func TestUsed(t *testing.T) {
	for _, c := range []struct {
		size      int
		ofNumbers []int
	}{
		{0, nil}, {1, nil}, {512, nil}, {513, nil}, {8 * 512, nil}, {8*512 + 1, []int{9}}, {far * 512, []int{9}},
		{far*512 + 1, []int{9, 138, 139}}, {next * 512, []int{9, 138, 139}}, {next*512 + 1, []int{9, 138, 139, 268}}, {393 * 512, []int{9, 138, 139, 268, 397}},
	} {
		g := newGround(t, 1, 420)
		n, f := g.grown(c.size)
		x := g.begin()
		used, e := Used(x, n)
		blocks := inode.Blocks(c.size)
		if e != api.OK || len(used) != inode.All(c.size) || !slices.Equal(used[blocks:], c.ofNumbers) || !slices.IsSorted(used[:blocks]) || !slices.Equal(used, f.used()) {
			t.Errorf("P802: Used of %d bytes: %v, %v", c.size, used, e)
		}
		if x.Writes() != 0 {
			t.Error("P802: Used wrote")
		}
	}
}

func TestUsedOfNoBlocks(t *testing.T) {
	g := newGround(t, 1, 12)
	x := g.begin()
	for _, kind := range []int{inode.None, inode.File, inode.Dir} {
		if used, e := Used(x, inode.Node{Kind: kind, Links: 2}); e != api.OK || len(used) != 0 {
			t.Errorf("P802: Used of no bytes: %v, %v", used, e)
		}
	}
}

// TestTwoFiles appends to two files and cuts them in turn: neither has a block of the other's.
func TestTwoFiles(t *testing.T) {
	g := newGround(t, 1, 420)
	var n [2]inode.Node
	var f [2]plain
	apart := func(x *wal.Txn) {
		t.Helper()
		seen := map[int]int{}
		for k := range n {
			g.same(x, n[k], f[k])
			used, _ := Used(x, n[k])
			for _, at := range used {
				seen[at]++
			}
		}
		if len(seen) != f[0].blocksInAll()+f[1].blocksInAll() {
			t.Fatal("P802: two files have a block together")
		}
		g.pooled(x)
	}
	for i := range 60 {
		g.do(func(x *wal.Txn) {
			n[i%2], f[i%2] = g.appends(x, n[i%2], f[i%2], text(500+i*97))
			apart(x)
		})
		if i%7 == 6 {
			g.do(func(x *wal.Txn) {
				k := i / 7 % 2
				n[k], f[k] = g.cuts(x, n[k], f[k], n[k].Size*(i%5)/5)
				apart(x)
			})
		}
	}
}
