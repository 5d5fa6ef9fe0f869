package file

import (
	"bytes"
	"math"
	"testing"

	"mailbag/alloc"
	"mailbag/api"
	"mailbag/inode"
	"mailbag/wal"
)

// TestNoRoomInTheTransaction has room for just the blocks that a call writes, and for fewer of them.
func TestNoRoomInTheTransaction(t *testing.T) {
	g := newGround(t, 1, 320)
	for _, c := range []struct {
		name       string
		size, need int
		call       func(x *wal.Txn, n inode.Node) api.Errno
	}{
		{"Append within a block", 100, 1, appending(g, 412)},
		{"Append of two more", 100, 4, appending(g, 412+513)}, // and the map
		{"Append of one more", 512, 2, appending(g, 1)},
		{"Append over Direct's end", 8*512 - 1, 5, appending(g, 514)}, // the last one, two more, One, the map
		{"Append in One", 20 * 512, 3, appending(g, 5)},
		{"Append over One's end", far * 512, 4, appending(g, 5)},
		{"Append over the first in Two", next * 512, 4, appending(g, 5)},
		{"Append in Two", (next + 1) * 512, 3, appending(g, 5)},
		{"Append of as many as there may be", 0, 63, appending(g, 61*512)}, // and One, the map
		{"Append of one above that", 0, 64, appending(g, 62*512)},
		{"Cut within a block", 500, 1, cutting(g, 100)},
		{"Cut to nothing", next*512 + 9, 1, cutting(g, 0)},
		{"Cut to a block's edge", 5 * 512, 1, cutting(g, 512)},
		{"Cut to within a block", 5 * 512, 2, cutting(g, 513)},
		{"Cut to Direct's end", next*512 + 9, 1, cutting(g, 8*512)},
		{"Cut to within One", next*512 + 9, 3, cutting(g, 20*512+1)},
		{"Cut to One's end", next*512 + 9, 1, cutting(g, far*512)},
		{"Cut to within the first in Two", next*512 + 9, 4, cutting(g, 200*512+1)},
		{"Cut to the end of the first in Two", next*512 + 9, 2, cutting(g, next*512)},
		{"Put of a byte", 5 * 512, 1, putting(700, 1)},
		{"Put over two blocks", 5 * 512, 2, putting(1023, 2)},
		{"Put of all", 63 * 512, 63, putting(0, 63*512)},
		{"Put of one above that", 64 * 512, 64, putting(0, 64*512)},
	} {
		n, f := g.grown(c.size)
		for room := range min(c.need, 63) + 1 {
			want := api.ErrFull
			if room >= c.need {
				want = api.OK
			}
			g.try(func(x *wal.Txn) {
				g.pack(x, 63-room)
				if e := c.call(x, n); e != want {
					t.Errorf("P802: %s, with room for %d blocks: %v; want %v", c.name, room, e, want)
				}
			})
		}
		g.do(func(x *wal.Txn) {
			g.same(x, n, f)
			g.pooled(x)
			g.cuts(x, n, f, 0)
		})
	}
}

func appending(g *ground, more int) func(x *wal.Txn, n inode.Node) api.Errno {
	return func(x *wal.Txn, n inode.Node) api.Errno {
		m, e := Append(x, g.pool, n, text(more))
		if e != api.OK && m != (inode.Node{}) {
			g.t.Errorf("P4: %v beside %v", m, e)
		}
		return e
	}
}

func cutting(g *ground, size int) func(x *wal.Txn, n inode.Node) api.Errno {
	return func(x *wal.Txn, n inode.Node) api.Errno {
		m, e := Cut(x, g.pool, n, size)
		if e != api.OK && m != (inode.Node{}) {
			g.t.Errorf("P4: %v beside %v", m, e)
		}
		return e
	}
}

func putting(off, count int) func(x *wal.Txn, n inode.Node) api.Errno {
	return func(x *wal.Txn, n inode.Node) api.Errno { return Put(x, n, off, text(count)) }
}

func TestWithoutPower(t *testing.T) {
	for _, size := range []int{1, 700, 9*512 + 3, far*512 + 5} {
		g := newGround(t, 1, 160)
		n, _ := g.grown(size)
		x := g.begin()
		g.disk.Cut()
		refusesRead(t, x, n, 0, 1, api.ErrDown)
		refusesRead(t, x, n, size-1, 1<<30, api.ErrDown)
		refusesRead(t, x, n, -1, 1, api.ErrArg)
		refusesAppend(t, x, g.pool, n, text(1), api.ErrDown)
		refusesAppend(t, x, g.pool, n, text(5000), api.ErrDown)
		refusesAppend(t, x, g.pool, n, make([]byte, inode.Most()), api.ErrLong)
		refusesCut(t, x, g.pool, n, 0, api.ErrDown)
		refusesCut(t, x, g.pool, n, size-1, api.ErrDown)
		refusesCut(t, x, g.pool, n, size+1, api.ErrArg)
		refusesPut(t, x, n, size-1, text(1), api.ErrDown)
		refusesPut(t, x, n, size, text(1), api.ErrArg)
		if size > 8*512 {
			refusesUsed(t, x, n, api.ErrDown)
		}
	}
}

// TestAtItsEnd: a transaction at its end is read, and not written.
func TestAtItsEnd(t *testing.T) {
	for name, end := range map[string]func(x *wal.Txn){"Commit": func(x *wal.Txn) { x.Commit() }, "Abort": (*wal.Txn).Abort} {
		g := newGround(t, 1, 160)
		n, f := g.grown(far*512 + 5)
		x := g.begin()
		end(x)
		g.unchanged(x, "a call behind "+name, func() {
			refusesAppend(t, x, g.pool, n, text(1), api.ErrOrder)
			refusesAppend(t, x, g.pool, n, text(5000), api.ErrOrder)
			refusesCut(t, x, g.pool, n, 0, api.ErrOrder)
			refusesCut(t, x, g.pool, n, n.Size-1, api.ErrOrder)
			refusesPut(t, x, n, 5, text(1), api.ErrOrder)
			g.same(x, n, f)
		})
	}
}

// TestWrongPools: what the pool tells is told, and nothing is changed then.
func TestWrongPools(t *testing.T) {
	g := newGround(t, 1, 20)
	n, f := g.grown(9*512 + 3)
	x := g.begin()
	for _, p := range []alloc.Pool{{}, {Map: -1, First: 1, N: 20}, {Map: 21, First: -1, N: 20}, {Map: 21, First: 1, N: 0}, {Map: math.MaxInt, First: 1, N: 20}, {Map: math.MinInt, First: math.MinInt, N: math.MinInt}} {
		g.unchanged(x, "a call with a pool that is not Right", func() {
			refusesAppend(t, x, p, n, text(1), api.ErrArg)
			refusesAppend(t, x, p, n, text(5000), api.ErrArg)
			refusesCut(t, x, p, n, 0, api.ErrArg)
			refusesCut(t, x, p, n, 512, api.ErrArg)
		})
		g.same(x, n, f)
	}
	far := alloc.Pool{Map: g.pool.Map, First: 1 << 30, N: 100} // its numbers are no blocks of the log
	refusesAppend(t, x, far, n, text(5000), api.ErrArg)
}

// shelf is Blocks of its own: it hands out the memory that it has, and fails at its Read number fails.
type shelf struct {
	blocks        map[int][]byte
	reads, writes int
	fails         int
}

func (s *shelf) Read(n int) ([]byte, api.Errno) {
	s.reads++
	if s.reads == s.fails {
		return []byte("beside an error"), api.ErrBusy
	}
	b, ok := s.blocks[n]
	if !ok {
		return nil, api.ErrNone
	}
	return b, api.OK
}

func (s *shelf) Write(n int, b []byte) api.Errno {
	s.writes++
	return api.ErrOrder
}

// shelved is a file with all levels, and a shelf that has it.
func shelved(t *testing.T) (*shelf, inode.Node, plain) {
	t.Helper()
	g := newGround(t, 1, 290)
	n, f := g.grown(next*512 + 9)
	return &shelf{blocks: f.blocks()}, n, f
}

// TestAnyBlocks: Read and Used go by what Blocks tell, and by that alone.
func TestAnyBlocks(t *testing.T) {
	s, n, f := shelved(t)
	g := &ground{t: t}
	for _, off := range []int{0, 5, 511, far*512 - 3, next*512 - 1, next * 512} {
		for _, count := range []int{0, 1, 600, 1 << 30} {
			g.reads(s, n, f, off, count)
		}
	}
	used, e := Used(s, n)
	if e != api.OK || len(used) != len(f.used()) || s.writes != 0 {
		t.Errorf("P802: Used: %d, %v; %d writes", len(used), e, s.writes)
	}
}

// TestReadsThatFail: the error of each one is told, and nothing beside it.
func TestReadsThatFail(t *testing.T) {
	s, n, f := shelved(t)
	for _, call := range []func(want api.Errno) bool{
		func(want api.Errno) bool {
			b, e := Read(s, n, 500, 600)
			return e == want && (e == api.OK || len(b) == 0)
		},
		func(want api.Errno) bool {
			b, e := Read(s, n, far*512-700, 2000)
			return e == want && (e == api.OK || len(b) == 0)
		},
		func(want api.Errno) bool {
			used, e := Used(s, n)
			return e == want && (e == api.OK || len(used) == 0)
		},
	} {
		s.reads, s.fails = 0, 0
		if !call(api.OK) {
			t.Error("P801: an error where none was")
		}
		for all := s.reads; all > 0; all-- {
			if s.reads, s.fails = 0, all; !call(api.ErrBusy) {
				t.Fatalf("P801: the error of Read %d is not told, or something is beside it", all)
			}
		}
	}
	s.fails = 0
	delete(s.blocks, f.ofNumbers[2])
	refusesUsed(t, s, n, api.ErrNone)
	refusesRead(t, s, n, 0, 1<<30, api.ErrNone)
	g := &ground{t: t}
	g.reads(s, n, f, 0, far*512) // what is not needed is not asked for
	g.reads(s, n, f, next*512, 9)
}

// TestBlocksThatAreNotWhole: P1, whatever bytes come.
func TestBlocksThatAreNotWhole(t *testing.T) {
	s, n, _ := shelved(t)
	for _, size := range []int{0, 1, 3, 511, 513, 2000} {
		for at := range s.blocks {
			s.blocks[at] = bytes.Repeat([]byte{1}, size)
		}
		Read(s, n, 0, 1<<30)
		Used(s, n)
	}
}

// TestWildNodes: P1, of nodes that no call made.
func TestWildNodes(t *testing.T) {
	g := newGround(t, 1, 30)
	g.grown(15 * 512)
	sizes := []int{math.MinInt, math.MinInt + 1, -513, -1, 0, 1, 5000, 100000, inode.Most() - 1, inode.Most(), inode.Most() + 1, 1 << 40, math.MaxInt - 1, math.MaxInt}
	for _, size := range sizes {
		for _, at := range []int{0, 1, 9, 31, -1, 1 << 40, math.MinInt, math.MaxInt} {
			n := inode.Node{Size: size, One: at, Two: at}
			for i := range n.Direct {
				n.Direct[i] = at
			}
			g.try(func(x *wal.Txn) {
				for _, other := range append(sizes, 512, 7) {
					Read(x, n, other, 700)
					Read(x, n, 0, min(other, 60000))
					Put(x, n, other, text(700))
					Append(x, g.pool, n, text(700))
					Cut(x, g.pool, n, other)
				}
				Used(x, n)
				Read(x, n, 0, math.MaxInt)
			})
		}
	}
}

// TestSizesThatMayNotBe: of those no call tells anything but an error.
func TestSizesThatMayNotBe(t *testing.T) {
	g := newGround(t, 1, 30)
	x := g.begin()
	for _, size := range []int{math.MinInt, -1, inode.Most() + 1, math.MaxInt} {
		n := inode.Node{Size: size}
		g.unchanged(x, "a call that was refused", func() {
			refusesRead(t, x, n, 0, 1, api.ErrArg)
			refusesPut(t, x, n, 0, nil, api.ErrArg)
			refusesCut(t, x, g.pool, n, 0, api.ErrArg)
			refusesUsed(t, x, n, api.ErrArg)
			want := api.ErrArg
			if size > 0 {
				want = api.ErrLong
			}
			refusesAppend(t, x, g.pool, n, nil, want)
			refusesAppend(t, x, g.pool, n, text(1), want)
		})
	}
}
