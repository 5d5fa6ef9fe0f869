package file

import (
	"math"
	"testing"

	"mailbag/api"
	"mailbag/inode"
	"mailbag/wal"
)

func TestRead(t *testing.T) {
	g := newGround(t, 3, 20)
	const size = 3*512 + 100
	n, f := g.grown(size)
	x := g.begin()
	for _, off := range []int{0, 1, 7, 510, 511, 512, 513, 1000, 1023, 1024, 1535, 1536, 1537, size - 1, size, size + 1, 2047, 2048, 9 * 512, math.MaxInt - 1, math.MaxInt} {
		for _, count := range []int{0, 1, 2, 511, 512, 513, 1024, 1025, size - 1, size, size + 1, max(size-off, 0), max(size-off-1, 0), max(size-off+1, 0), 1 << 30, math.MaxInt} {
			g.reads(x, n, f, off, count)
		}
	}
	if x.Writes() != 0 {
		t.Error("P801: Read wrote")
	}
}

// TestReadOverLevels reads around each edge of levels.
func TestReadOverLevels(t *testing.T) {
	g := newGround(t, 1, 320)
	n, f := g.grown(300*512 + 5)
	x := g.begin()
	g.same(x, n, f)
	for _, edge := range []int{near * 512, far * 512, next * 512, 300 * 512} {
		for _, off := range []int{edge - 513, edge - 512, edge - 1, edge, edge + 1, edge + 4} {
			for _, count := range []int{0, 1, 2, 512, 514, 1026, 1 << 30} {
				g.reads(x, n, f, off, count)
			}
		}
	}
	g.reads(x, n, f, 0, math.MaxInt)
}

func TestReadOfNoBytes(t *testing.T) {
	g := newGround(t, 1, 5)
	x := g.begin()
	for _, kind := range []int{inode.None, inode.File, inode.Dir} {
		n := inode.Node{Kind: kind}
		for _, off := range []int{0, 1, 512, math.MaxInt} {
			for _, count := range []int{0, 1, 512, math.MaxInt} {
				g.reads(x, n, plain{}, off, count)
			}
		}
	}
}

func TestReadOfWrongNumbers(t *testing.T) {
	g := newGround(t, 1, 10)
	some, _ := g.grown(1000)
	x := g.begin()
	for _, n := range []inode.Node{{}, some} {
		for _, c := range []struct{ off, count int }{
			{-1, 0}, {-1, 1}, {-1, -1}, {0, -1}, {1, -1}, {5000, -1}, {-512, 1000}, {math.MinInt, 0}, {0, math.MinInt}, {math.MinInt, math.MinInt},
			{math.MinInt, math.MaxInt}, {math.MaxInt, math.MinInt}, {math.MaxInt, -1}, {-1, math.MaxInt},
		} {
			g.unchanged(x, "Read", func() { refusesRead(t, x, n, c.off, c.count, api.ErrArg) })
		}
	}
}

// TestReadAsCommitted: a transaction at its end reads what was committed last, and an aborted one leaves nothing.
func TestReadAsCommitted(t *testing.T) {
	g := newGround(t, 1, 30)
	n, f := g.grown(12 * 512)
	g.try(func(x *wal.Txn) {
		if e := Put(x, n, 5000, text(700)); e != api.OK {
			t.Fatalf("P802: Put: %v", e)
		}
		m, h := g.appends(x, n, f, text(3))
		copy(h.text[5000:], text(700))
		g.same(x, m, h)
	})
	var x *wal.Txn
	g.do(func(y *wal.Txn) { x = y })
	g.same(x, n, f)
	x.Abort()
	g.same(x, n, f)
}

// TestSyncedFile: what was synced is there behind a crash.
func TestSyncedFile(t *testing.T) {
	g := newGround(t, 1, 200)
	n, f := g.grown(150*512 + 9)
	if e := g.log.Sync(); e != api.OK {
		t.Fatalf("Sync: %v", e)
	}
	g.do(func(x *wal.Txn) { g.pool.Take(x); Cut(x, g.pool, n, 100) })
	g.disk.Cut()
	g.disk.On()
	l, e := wal.Open(g.disk)
	if e != api.OK {
		t.Fatalf("Open: %v", e)
	}
	g.log = l
	x := g.begin()
	g.same(x, n, f)
	g.pooled(x)
}
