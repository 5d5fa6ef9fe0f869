package alloc

import (
	"bytes"
	"math"
	"testing"

	"mailbag/api"
	"mailbag/block"
	"mailbag/wal"
)

// own is how many of a disk's blocks are the log's own, as P401 says it.
const own = api.LogBlocks + 1

// made is a log that keeps so many blocks.
func made(t *testing.T, size int) (*block.Disk, *wal.Log) {
	t.Helper()
	d, _ := block.New(own + size)
	l, e := wal.Format(d)
	if e != api.OK {
		t.Fatalf("Format: %v", e)
	}
	return d, l
}

func begin(t *testing.T, l *wal.Log) *wal.Txn {
	t.Helper()
	x, e := l.Begin()
	if e != api.OK {
		t.Fatalf("Begin: %v", e)
	}
	return x
}

// fresh is a transaction of a new log that keeps so many blocks.
func fresh(t *testing.T, size int) *wal.Txn {
	t.Helper()
	_, l := made(t, size)
	return begin(t, l)
}

// of is a block of bytes c.
func of(c byte) []byte { return bytes.Repeat([]byte{c}, api.Block) }

func write(t *testing.T, x *wal.Txn, n int, b []byte) {
	t.Helper()
	if e := x.Write(n, b); e != api.OK {
		t.Fatalf("Write(%d, ..): %v", n, e)
	}
}

// image is the blocks 0 to size less 1 as x has them, one behind the other.
func image(t *testing.T, x *wal.Txn, size int) []byte {
	t.Helper()
	var all []byte
	for n := range size {
		b, e := x.Read(n)
		if e != api.OK {
			t.Fatalf("Read(%d): %v", n, e)
		}
		all = append(all, b...)
	}
	return all
}

func clears(t *testing.T, p Pool, x *wal.Txn, want api.Errno) {
	t.Helper()
	if e := p.Clear(x); e != want {
		t.Errorf("P601: Clear of %v: %v; want %v", p, e, want)
	}
}

// takes holds Take to a number, or to an error with 0 beside it.
func takes(t *testing.T, p Pool, x *wal.Txn, n int, want api.Errno) {
	t.Helper()
	if got, e := p.Take(x); got != n || e != want {
		t.Fatalf("P601: Take of %v: %d, %v; want %d, %v", p, got, e, n, want)
	}
}

func gives(t *testing.T, p Pool, x *wal.Txn, n int, want api.Errno) {
	t.Helper()
	if e := p.Give(x, n); e != want {
		t.Errorf("P601: Give(%d) of %v: %v; want %v", n, p, e, want)
	}
}

func has(t *testing.T, p Pool, x *wal.Txn, n int, is bool, want api.Errno) {
	t.Helper()
	if got, e := p.Has(x, n); got != is || e != want {
		t.Errorf("P601: Has(%d) of %v: %v, %v; want %v, %v", n, p, got, e, is, want)
	}
}

func free(t *testing.T, p Pool, x *wal.Txn, n int, want api.Errno) {
	t.Helper()
	if got, e := p.Free(x); got != n || e != want {
		t.Errorf("P601: Free of %v: %d, %v; want %d, %v", p, got, e, n, want)
	}
}

// takeMany takes the next count numbers, which are those from n on.
func takeMany(t *testing.T, p Pool, x *wal.Txn, n, count int) {
	t.Helper()
	for i := range count {
		takes(t, p, x, n+i, api.OK)
	}
}

func TestMaps(t *testing.T) {
	for _, c := range []struct{ n, want int }{
		{math.MinInt, 0}, {math.MinInt + 1, 0}, {-4097, 0}, {-4096, 0}, {-1, 0}, {0, 0},
		{1, 1}, {2, 1}, {7, 1}, {8, 1}, {9, 1}, {511, 1}, {512, 1}, {513, 1}, {4095, 1}, {4096, 1},
		{4097, 2}, {8191, 2}, {8192, 2}, {8193, 3}, {12288, 3}, {12289, 4}, {api.MaxBlocks - 1, 4}, {api.MaxBlocks, 4},
		{api.MaxBlocks + 1, 5}, {math.MaxInt - 1, math.MaxInt>>12 + 1}, {math.MaxInt, math.MaxInt>>12 + 1},
	} {
		for _, p := range []Pool{{N: c.n}, {Map: 7, First: 9, N: c.n}, {Map: -1, First: -1, N: c.n}, {Map: math.MaxInt, First: math.MinInt, N: c.n}} {
			if got := p.Maps(); got != c.want {
				t.Errorf("P601: Maps of %v: %d; want %d", p, got, c.want)
			}
		}
	}
	if per != 8*api.Block {
		t.Errorf("P601: a block of the map has %d bits; want %d", per, 8*api.Block)
	}
}

func TestRight(t *testing.T) {
	for _, c := range []struct {
		p      Pool
		blocks int
		want   bool
	}{
		{Pool{0, 0, 1}, 1, true}, {Pool{0, 0, 1}, 0, false}, {Pool{0, 0, 1}, -1, false}, {Pool{0, 0, 1}, math.MinInt, false}, {Pool{0, 0, 1}, math.MaxInt, true},
		{Pool{}, 10, false}, {Pool{}, 0, false},

		{Pool{-1, 0, 1}, 10, false}, {Pool{-1, 0, 1}, 0, false}, {Pool{math.MinInt, 0, 1}, 10, false}, {Pool{math.MinInt, 0, 1}, math.MinInt, false}, {Pool{math.MinInt, 0, 1}, math.MaxInt, false},

		{Pool{0, -1, 1}, 10, false}, {Pool{0, 1, 1}, 10, true}, {Pool{0, 1<<30 - 1, 1}, 10, true}, {Pool{0, 1 << 30, 1}, 10, true}, {Pool{0, 1<<30 + 1, 1}, 10, false},
		{Pool{0, 1 << 30, api.MaxBlocks}, 10, true}, {Pool{0, math.MaxInt, 1}, 10, false}, {Pool{0, math.MinInt, 1}, 10, false},

		{Pool{0, 0, 0}, 10, false}, {Pool{0, 0, -1}, 10, false}, {Pool{0, 0, math.MinInt}, 10, false}, {Pool{0, 0, math.MinInt}, math.MinInt, false},
		{Pool{0, 0, api.MaxBlocks - 1}, 10, true}, {Pool{0, 0, api.MaxBlocks}, 10, true}, {Pool{0, 0, api.MaxBlocks + 1}, 10, false},
		{Pool{0, 0, api.MaxBlocks + 1}, math.MaxInt, false}, {Pool{0, 0, math.MaxInt}, math.MaxInt, false},

		{Pool{9, 0, 1}, 10, true}, {Pool{10, 0, 1}, 10, false}, {Pool{11, 0, 1}, 10, false}, {Pool{9, 0, 4096}, 10, true}, {Pool{9, 0, 4097}, 10, false}, {Pool{8, 0, 4097}, 10, true},
		{Pool{6, 0, api.MaxBlocks}, 10, true}, {Pool{7, 0, api.MaxBlocks}, 10, false}, {Pool{0, 0, api.MaxBlocks}, 4, true}, {Pool{0, 0, api.MaxBlocks}, 3, false},
		{Pool{0, 0, api.MaxBlocks}, math.MinInt, false}, {Pool{0, 0, api.MaxBlocks}, math.MinInt + 3, false}, {Pool{5, 0, 1}, math.MinInt, false},

		{Pool{math.MaxInt, 0, 1}, 10, false}, {Pool{math.MaxInt, 0, 1}, math.MaxInt, false}, {Pool{math.MaxInt - 1, 0, 1}, math.MaxInt, true},
		{Pool{math.MaxInt - 3, 0, api.MaxBlocks}, math.MaxInt, false}, {Pool{math.MaxInt - 4, 0, api.MaxBlocks}, math.MaxInt, true}, {Pool{math.MaxInt, 0, 1}, math.MinInt, false},
		{Pool{math.MaxInt, math.MaxInt, math.MaxInt}, math.MaxInt, false}, {Pool{math.MinInt, math.MinInt, math.MinInt}, math.MinInt, false},
	} {
		if got := c.p.Right(c.blocks); got != c.want {
			t.Errorf("P601: Right(%d) of %v: %v; want %v", c.blocks, c.p, got, c.want)
		}
	}
}
