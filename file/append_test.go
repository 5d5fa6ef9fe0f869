package file

import (
	"slices"
	"testing"

	"mailbag/alloc"
	"mailbag/api"
	"mailbag/inode"
	"mailbag/wal"
)

func TestAppendFromNothing(t *testing.T) {
	g := newGround(t, 1, 60)
	for _, kind := range []int{inode.None, inode.File, inode.Dir, 77, -1} {
		for _, links := range []int{0, 1, 65535} {
			for _, size := range []int{0, 1, 2, 511, 512, 513, 1023, 1024, 1025, 8*512 - 1, 8 * 512, 8*512 + 1, 9 * 512, 9*512 + 1, 50 * 512} {
				g.try(func(x *wal.Txn) {
					n, f := g.appends(x, inode.Node{Kind: kind, Links: links}, plain{kind: kind, links: links}, text(size))
					g.same(x, n, f)
					g.pooled(x)
				})
			}
		}
	}
}

// TestAppendOverEdges appends to files that end around each edge of levels.
func TestAppendOverEdges(t *testing.T) {
	for _, edge := range []int{1, near, far, next, next + 128} {
		g := newGround(t, 1, 440)
		n, f := g.grown(max(edge*512-600, 0))
		for step := range 12 {
			x := g.begin()
			for _, more := range []int{0, 1, 2, 87, 511, 512, 513, 600, 601, 1111, 1112, 1113, 9 * 512} {
				was := g.twinTaken()
				m, h := g.appends(x, n, f, text(more))
				g.same(x, m, h)
				g.pooled(x)
				x.Abort()
				g.taken = was
				x = g.begin()
			}
			n, f = g.appends(x, n, f, text([]int{87, 1, 511, 1, 1, 510, 1, 1, 512, 0, 1, 3}[step]))
			g.same(x, n, f)
			if e := x.Commit(); e != api.OK {
				t.Fatalf("Commit: %v", e)
			}
		}
	}
}

// TestAppendOrder has the numbers one by one, as P802 names their order.
func TestAppendOrder(t *testing.T) {
	g := newGround(t, 1, 400)
	n := inode.Node{}
	for range 7 {
		g.do(func(x *wal.Txn) { n, _ = Append(x, g.pool, n, make([]byte, 40*512)) })
	}
	x := g.begin()
	used, e := Used(x, n)
	var want []int
	for i := 1; i <= 8; i++ {
		want = append(want, i) // Direct; One is 9
	}
	for i := 10; i <= 137; i++ {
		want = append(want, i) // Two is 138, the first one in it 139
	}
	for i := 140; i <= 267; i++ {
		want = append(want, i) // the second one is 268
	}
	for i := 269; len(want) < 280; i++ {
		want = append(want, i)
	}
	want = append(want, 9, 138, 139, 268)
	if e != api.OK || !slices.Equal(used, want) {
		t.Errorf("P802: %v, %v; want %v", used, e, want)
	}
	if n.One != 9 || n.Two != 138 || n.Direct != [8]int{1, 2, 3, 4, 5, 6, 7, 8} || n.Size != 280*512 {
		t.Errorf("P802: %v", n)
	}
}

// TestAppendIntoHoles: the blocks are p's Take, whatever is free there.
func TestAppendIntoHoles(t *testing.T) {
	g := newGround(t, 2, 400)
	for range 6 {
		g.do(func(x *wal.Txn) {
			for range 60 {
				g.pool.Take(x)
				g.take()
			}
		})
	}
	g.do(func(x *wal.Txn) {
		for at := 361; at >= 2; at-- {
			if at%3 != 0 && at%7 != 1 {
				g.pool.Give(x, at)
				delete(g.taken, at)
			}
		}
	})
	n, f := g.grown(140*512 + 1)
	x := g.begin()
	g.same(x, n, f)
	g.pooled(x)
}

// TestNumberZero: a pool may hand out 0, too; where a file has blocks its size tells, not their numbers.
func TestNumberZero(t *testing.T) {
	for ahead, is := range map[int]func(f plain) int{ // what is number 0, behind so many blocks
		0:   func(f plain) int { return f.ofBytes[0] },
		3:   func(f plain) int { return f.ofBytes[3] },
		8:   func(f plain) int { return f.ofNumbers[0] },
		20:  func(f plain) int { return f.ofBytes[19] },
		137: func(f plain) int { return f.ofNumbers[1] },
		200: func(f plain) int { return f.ofBytes[197] },
		267: func(f plain) int { return f.ofNumbers[3] },
	} {
		g := newGround(t, 0, 300)
		n, f := inode.Node{}, plain{}
		if ahead > 0 {
			g.do(func(x *wal.Txn) { g.pool.Take(x); g.take() })
		}
		for f.blocksInAll() < ahead {
			g.do(func(x *wal.Txn) { n, f = g.appends(x, n, f, text(512)) })
		}
		if ahead > 0 {
			g.do(func(x *wal.Txn) { g.pool.Give(x, 0); delete(g.taken, 0) })
		}
		for range 3 {
			g.do(func(x *wal.Txn) {
				n, f = g.appends(x, n, f, text(400))
				g.same(x, n, f)
			})
		}
		if is(f) != 0 {
			t.Fatalf("behind %d blocks number 0 stands elsewhere", ahead)
		}
		g.do(func(x *wal.Txn) {
			n, f = g.cuts(x, n, f, 1)
			g.same(x, n, f)
			n, f = g.cuts(x, n, f, 0)
			g.same(x, n, f)
			g.pooled(x)
		})
	}
}

func TestAppendOfNoBytes(t *testing.T) {
	g := newGround(t, 1, 20)
	for _, size := range []int{0, 1, 512, 700, 8 * 512, 9 * 512} {
		n, f := g.grown(size)
		x := g.begin()
		for _, b := range [][]byte{nil, {}, text(5)[:0]} {
			g.unchanged(x, "Append of no bytes", func() {
				m, e := Append(x, g.pool, n, b)
				if e != api.OK || m != n {
					t.Errorf("P802: Append of no bytes: %v, %v; want %v", m, e, n)
				}
			})
		}
		g.cuts(x, n, f, 0)
		x.Commit()
	}
}

// TestZerosBehind: a block that had other bytes has bytes 0 where it was not written.
func TestZerosBehind(t *testing.T) {
	g := newGround(t, 1, 40)
	n, f := g.grown(30 * 512)
	g.do(func(x *wal.Txn) { n, f = g.cuts(x, n, f, 0) })
	for range 12 {
		g.do(func(x *wal.Txn) {
			n, f = g.appends(x, n, f, text(400))
			g.same(x, n, f)
		})
	}
}

// TestAppendInPieces: however bytes are cut, the file is the same.
func TestAppendInPieces(t *testing.T) {
	for _, by := range []int{1, 7, 100, 511, 512, 513, 3000} {
		g := newGround(t, 1, 40)
		n, f := inode.Node{}, plain{}
		x := g.begin()
		for all := text(11*512 + 3); len(all) > 0; {
			piece := all[:min(by, len(all))]
			n, f = g.appends(x, n, f, piece)
			all = all[len(piece):]
		}
		g.same(x, n, f)
		g.pooled(x)
	}
}

// TestLong has Size at Most, for which no pool has enough, and one above.
func TestLong(t *testing.T) {
	g := newGround(t, 1, 20)
	most := make([]byte, inode.Most()+1)
	if len(most) != 512*(8+128+128*128)+1 {
		t.Fatalf("P702: Most is %d", inode.Most())
	}
	for _, size := range []int{0, 1, 511, 512, 3000, 9*512 + 1} {
		n, f := g.grown(size)
		x := g.begin()
		g.unchanged(x, "an Append that was refused", func() {
			refusesAppend(t, x, g.pool, n, most[:inode.Most()-size], api.ErrFull)
			refusesAppend(t, x, g.pool, n, most[:inode.Most()-size+1], api.ErrLong)
			refusesAppend(t, x, g.pool, n, most, api.ErrLong)
			g.same(x, n, f)
		})
		g.cuts(x, n, f, 0)
		x.Commit()
	}
}

// TestJustEnough has a pool with as many free as are needed, and one fewer.
func TestJustEnough(t *testing.T) {
	for _, c := range []struct{ old, more, need int }{
		{0, 1, 1}, {0, 512, 1}, {0, 513, 2}, {0, 8 * 512, 8}, {0, 8*512 + 1, 10}, {0, 9*512 + 1, 11}, {100, 412, 0}, {100, 413, 1},
		{8 * 512, 1, 2}, {8*512 - 1, 1, 0}, {8*512 - 1, 2, 2}, {8 * 512, 513, 3}, {9 * 512, 1, 1},
		{far * 512, 1, 3}, {far*512 - 1, 1, 0}, {far*512 - 1, 2, 3}, {far*512 - 1, 514, 4}, {(far + 1) * 512, 1, 1},
		{next * 512, 1, 2}, {next*512 - 1, 2, 2}, {next*512 - 1, 514, 3}, {(next + 1) * 512, 1, 1},
	} {
		for missing := range 3 {
			all := inode.All(c.old) + c.need - missing
			if missing > c.need || all < 1 {
				continue
			}
			g := newGround(t, 1, all)
			n, f := g.grown(c.old)
			x := g.begin()
			if missing > 0 {
				g.unchanged(x, "an Append that was refused", func() {
					refusesAppend(t, x, g.pool, n, text(c.more), api.ErrFull)
					g.same(x, n, f)
				})
				takesNext(t, g, x)
				continue
			}
			n, f = g.appends(x, n, f, text(c.more))
			g.same(x, n, f)
			g.pooled(x)
			if free, _ := g.pool.Free(x); free != 0 {
				t.Errorf("P802: %d are free", free)
			}
			n, f = g.appends(x, n, f, text((512-n.Size%512)%512)) // up to the block's edge none is needed
			g.same(x, n, f)
			refusesAppend(t, x, g.pool, n, text(1), api.ErrFull)
			g.same(x, n, f)
		}
	}
}

// takesNext checks what is handed out next, as far as something is free.
func takesNext(t *testing.T, g *ground, x *wal.Txn) {
	t.Helper()
	if len(g.taken) == g.pool.N {
		return
	}
	want := g.take()
	if at, e := g.pool.Take(x); e != api.OK || at != want {
		t.Errorf("P5: behind ErrFull %d is handed out, %v; want %d", at, e, want)
	}
}

// TestErrorsOfAppend: ErrLong is ahead of ErrFull, and both of what t and p tell.
func TestErrorsOfAppend(t *testing.T) {
	g := newGround(t, 1, 9)
	n, f := g.grown(7 * 512)
	long, most := make([]byte, inode.Most()), make([]byte, inode.Most()-n.Size)
	x := g.begin()
	g.unchanged(x, "an Append that was refused", func() {
		refusesAppend(t, x, g.pool, n, long, api.ErrLong)
		refusesAppend(t, x, g.pool, n, most, api.ErrFull)
		refusesAppend(t, x, alloc.Pool{}, n, long, api.ErrLong)
		refusesAppend(t, x, alloc.Pool{}, n, most, api.ErrArg)
		refusesAppend(t, x, alloc.Pool{Map: -1, N: 9}, n, text(1), api.ErrArg)
	})
	x.Commit()
	refusesAppend(t, x, g.pool, n, long, api.ErrLong)
	refusesAppend(t, x, g.pool, n, text(5*512), api.ErrFull)
	refusesAppend(t, x, g.pool, n, text(1), api.ErrOrder)
	g.same(x, n, f)
	g.disk.Cut()
	refusesAppend(t, x, g.pool, n, long, api.ErrLong)
	refusesAppend(t, x, g.pool, n, text(5*512), api.ErrDown)
}
