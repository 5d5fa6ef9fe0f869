package file

import (
	"math"
	"testing"

	"mailbag/alloc"
	"mailbag/api"
	"mailbag/inode"
	"mailbag/wal"
)

// around are sizes at so many blocks and on either side of it, as far as a file of most bytes has them.
func around(most int, blocks ...int) []int {
	var sizes []int
	for _, i := range blocks {
		for _, by := range []int{-512, -511, -2, -1, 0, 1, 2, 511} {
			if size := i*512 + by; size >= 0 && size <= most {
				sizes = append(sizes, size)
			}
		}
	}
	return append(sizes, most, most-1)
}

// TestCut cuts files that end in each level to sizes around all edges.
func TestCut(t *testing.T) {
	for _, size := range []int{1, 512, 700, 8 * 512, 9*512 - 1, 40*512 + 7, far * 512, far*512 + 1, next * 512, next*512 + 1, 400*512 + 9} {
		g := newGround(t, 1, 420)
		n, f := g.grown(size)
		for _, to := range around(size, 0, 1, 2, near-1, near, near+1, 40, far-1, far, far+1, 200, next, next+1, 392, 393, 400) {
			g.try(func(x *wal.Txn) {
				m, h := g.cuts(x, n, f, to)
				g.same(x, m, h)
				g.pooled(x)
			})
		}
	}
}

// TestCutStepByStep goes from Two back to One and to Direct, and to nothing.
func TestCutStepByStep(t *testing.T) {
	g := newGround(t, 1, 420)
	n, f := g.grown(400*512 + 9)
	for n.Size > 0 {
		g.do(func(x *wal.Txn) {
			n, f = g.cuts(x, n, f, max(n.Size-1700, 0))
			g.same(x, n, f)
			g.pooled(x)
		})
	}
	if n != (inode.Node{Kind: inode.File, Links: 3}) || len(g.taken) != 0 {
		t.Errorf("P802: behind a Cut to 0: %v", n)
	}
}

// TestCutAndAppend: what was cut off does not come back.
func TestCutAndAppend(t *testing.T) {
	g := newGround(t, 1, 300)
	for _, size := range []int{1, 511, 513, 8*512 - 1, 8 * 512, 8*512 + 1, 9*512 + 5, far * 512, far*512 + 1, (far+1)*512 + 4, next*512 + 6} {
		n, f := g.grown(next*512 + 700)
		g.do(func(x *wal.Txn) {
			n, f = g.cuts(x, n, f, size)
			n, f = g.appends(x, n, f, text(3))
			g.same(x, n, f)
			n, f = g.appends(x, n, f, text(1100))
			g.same(x, n, f)
			n, f = g.cuts(x, n, f, 0)
			g.pooled(x)
		})
	}
}

// TestCutToSize leaves all as it is, and needs no room for it.
func TestCutToSize(t *testing.T) {
	g := newGround(t, 1, 160)
	for _, size := range []int{0, 1, 512, 700, 8 * 512, 9 * 512, far * 512, far*512 + 1} {
		n, f := g.grown(size)
		g.do(func(x *wal.Txn) {
			g.pack(x, 63)
			g.unchanged(x, "Cut to Size", func() {
				m, h := g.cuts(x, n, f, size)
				g.same(x, m, h)
			})
		})
		g.do(func(x *wal.Txn) { g.cuts(x, n, f, 0) })
	}
}

// TestCutTheGreatest cuts as great a file as a disk has room for, in one transaction: what goes is not written to.
func TestCutTheGreatest(t *testing.T) {
	g := newGround(t, 1, 16200)
	n, f := g.grown(16000*512 - 3)
	g.try(func(x *wal.Txn) {
		g.same(x, n, f)
		m, h := g.cuts(x, n, f, 0)
		g.same(x, m, h)
		g.pooled(x)
		if x.Writes() != 4 {
			t.Errorf("P802: Cut to 0 wrote to %d blocks; want those of the map", x.Writes())
		}
	})
	for _, size := range []int{8 * 512, 100*512 + 1, 5000*512 + 1} {
		g.try(func(x *wal.Txn) {
			m, h := g.cuts(x, n, f, size)
			g.same(x, m, h)
			g.pooled(x)
		})
	}
}

func TestCutToWrongSizes(t *testing.T) {
	g := newGround(t, 1, 20)
	some, f := g.grown(9*512 + 3)
	x := g.begin()
	for _, n := range []inode.Node{{}, {Kind: inode.Dir}, some} {
		for _, size := range []int{-1, -512, math.MinInt, math.MinInt + 1, n.Size + 1, n.Size + 512, inode.Most(), inode.Most() + 1, math.MaxInt} {
			g.unchanged(x, "a Cut that was refused", func() {
				refusesCut(t, x, g.pool, n, size, api.ErrArg)
				refusesCut(t, x, alloc.Pool{}, n, size, api.ErrArg)
			})
		}
	}
	g.same(x, some, f)
	x.Commit()
	refusesCut(t, x, g.pool, some, -1, api.ErrArg)
	g.disk.Cut()
	refusesCut(t, x, g.pool, some, -1, api.ErrArg)
	refusesCut(t, x, g.pool, some, some.Size+1, api.ErrArg)
	refusesCut(t, x, g.pool, some, 0, api.ErrDown)
}
