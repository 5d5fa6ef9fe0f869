package file

import (
	"bytes"
	"math"
	"testing"

	"mailbag/api"
	"mailbag/inode"
	"mailbag/wal"
)

// puts holds one Put against a plain file.
func (g *ground) puts(x *wal.Txn, n inode.Node, f plain, off int, b []byte) {
	g.t.Helper()
	f = f.twin()
	copy(f.text[off:], b)
	if e := Put(x, n, off, b); e != api.OK {
		g.t.Fatalf("P802: Put of %d bytes at %d of %d: %v", len(b), off, n.Size, e)
	}
	g.same(x, n, f)
	g.pooled(x)
}

func TestPut(t *testing.T) {
	for _, size := range []int{0, 1, 512, 513, 3*512 + 100, far*512 + 700, next*512 + 700} {
		g := newGround(t, 1, 290)
		n, f := g.grown(size)
		for _, off := range around(size, 0, 1, 2, near, far, next) {
			for _, count := range []int{0, 1, 2, 15, 511, 512, 513, 1024, 1030, size - off} {
				if off < 0 || off+count > size || count > 50*512 { // a transaction has room for 63 blocks
					continue
				}
				g.try(func(x *wal.Txn) { g.puts(x, n, f, off, bytes.Repeat([]byte{0xB7}, count)) })
			}
		}
	}
}

// TestPutWritesWhatItMust: the blocks in which its bytes stand, and no others.
func TestPutWritesWhatItMust(t *testing.T) {
	g := newGround(t, 1, 160)
	n, f := g.grown(140*512 + 100)
	for _, c := range []struct{ off, count, writes int }{
		{0, 0, 0}, {700, 0, 0}, {n.Size, 0, 0}, {0, 1, 1}, {0, 512, 1}, {0, 513, 2}, {511, 2, 2}, {511, 514, 3}, {n.Size - 1, 1, 1}, {far*512 - 1, 2, 2}, {135 * 512, 5*512 + 100, 6},
	} {
		g.try(func(x *wal.Txn) {
			g.puts(x, n, f, c.off, bytes.Repeat([]byte{9}, c.count))
			if x.Writes() != c.writes {
				t.Errorf("P802: Put of %d bytes at %d wrote to %d blocks; want %d", c.count, c.off, x.Writes(), c.writes)
			}
		})
	}
}

func TestPutAtWrongPlaces(t *testing.T) {
	g := newGround(t, 1, 20)
	some, f := g.grown(9*512 + 3)
	x := g.begin()
	for _, n := range []inode.Node{{}, {Kind: inode.Dir}, some} {
		for _, c := range []struct{ off, count int }{
			{-1, 0}, {-1, 1}, {-1, 5}, {-1, n.Size + 1}, {-512, 512}, {math.MinInt, 0}, {math.MinInt, 1}, {math.MinInt + 1, 700},
			{n.Size, 1}, {n.Size + 1, 0}, {n.Size + 1, 1}, {0, n.Size + 1}, {max(n.Size-5, 0), 6}, {max(n.Size-512, 0), 513},
			{math.MaxInt, 0}, {math.MaxInt, 1}, {math.MaxInt - 1, 2}, {inode.Most(), 0},
		} {
			g.unchanged(x, "a Put that was refused", func() { refusesPut(t, x, n, c.off, text(c.count), api.ErrArg) })
		}
	}
	g.same(x, some, f)
	x.Commit()
	refusesPut(t, x, some, -1, text(1), api.ErrArg)
	g.disk.Cut()
	refusesPut(t, x, some, -1, nil, api.ErrArg)
	refusesPut(t, x, some, some.Size, text(1), api.ErrArg)
	refusesPut(t, x, some, 0, text(1), api.ErrDown)
}
