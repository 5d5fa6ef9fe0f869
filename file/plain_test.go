package file

import (
	"bytes"
	"maps"
	"slices"
	"testing"

	"mailbag/alloc"
	"mailbag/api"
	"mailbag/block"
	"mailbag/inode"
	"mailbag/wal"
)

// The edges of the levels, in blocks of bytes: from near on One has them, from far
// on Two, and from next on the second block that stands in it.
const (
	near = 8
	far  = near + 128
	next = far + 128
)

// own is how many of a disk's blocks are the log's own, as P401 says it.
const own = api.LogBlocks + 1

// ground is a pool over a log, and a plain set of what it has taken.
type ground struct {
	t     *testing.T
	disk  *block.Disk
	log   *wal.Log
	pool  alloc.Pool
	taken map[int]bool
}

// newGround has a pool of n numbers, its map behind their blocks. All that is
// handed out has other bytes than 0 in it.
func newGround(t *testing.T, first, n int) *ground {
	t.Helper()
	pool := alloc.Pool{Map: first + n, First: first, N: n}
	d, e := block.New(own + first + n + max(pool.Maps(), 1) + 70)
	if e != api.OK {
		t.Fatalf("block.New: %v", e)
	}
	l, e := wal.Format(d)
	if e != api.OK {
		t.Fatalf("wal.Format: %v", e)
	}
	g := &ground{t: t, disk: d, log: l, pool: pool, taken: map[int]bool{}}
	for from := first; from < first+n; from += 60 {
		g.do(func(x *wal.Txn) {
			for at := from; at < min(from+60, first+n); at++ {
				x.Write(at, bytes.Repeat([]byte{0xD1}, api.Block))
			}
		})
	}
	return g
}

func (g *ground) begin() *wal.Txn {
	g.t.Helper()
	x, e := g.log.Begin()
	if e != api.OK {
		g.t.Fatalf("Begin: %v", e)
	}
	return x
}

// do does something as one transaction.
func (g *ground) do(call func(x *wal.Txn)) {
	g.t.Helper()
	x := g.begin()
	call(x)
	if e := x.Commit(); e != api.OK {
		g.t.Fatalf("Commit: %v", e)
	}
}

// try does something as a transaction that is aborted.
func (g *ground) try(call func(x *wal.Txn)) {
	g.t.Helper()
	x, was := g.begin(), maps.Clone(g.taken)
	call(x)
	x.Abort()
	g.taken = was
}

func (g *ground) take() int {
	for at := g.pool.First; at < g.pool.First+g.pool.N; at++ {
		if !g.taken[at] {
			g.taken[at] = true
			return at
		}
	}
	g.t.Fatal("the plain pool is empty")
	return 0
}

// plain is a file as lists alone.
type plain struct {
	kind, links int
	text        []byte
	ofBytes     []int // numbers of its blocks
	ofNumbers   []int // One, Two, those in Two
}

func (f plain) twin() plain {
	f.text, f.ofBytes, f.ofNumbers = bytes.Clone(f.text), slices.Clone(f.ofBytes), slices.Clone(f.ofNumbers)
	return f
}

// heads is how many blocks of numbers block i is the first of.
func heads(i int) int {
	switch {
	case i == far:
		return 2
	case i == near, i > far && (i-far)%128 == 0:
		return 1
	}
	return 0
}

func (f *plain) append(g *ground, b []byte) {
	f.text = append(f.text, b...)
	for len(f.ofBytes)*512 < len(f.text) {
		for range heads(len(f.ofBytes)) {
			f.ofNumbers = append(f.ofNumbers, g.take())
		}
		f.ofBytes = append(f.ofBytes, g.take())
	}
}

func (f *plain) cut(g *ground, size int) {
	f.text = f.text[:size]
	for (len(f.ofBytes)-1)*512 >= size {
		last := len(f.ofBytes) - 1
		delete(g.taken, f.ofBytes[last])
		f.ofBytes = f.ofBytes[:last]
		for range heads(last) {
			end := len(f.ofNumbers) - 1
			delete(g.taken, f.ofNumbers[end])
			f.ofNumbers = f.ofNumbers[:end]
		}
	}
}

func (f plain) node() inode.Node {
	n := inode.Node{Kind: f.kind, Links: f.links, Size: len(f.text)}
	copy(n.Direct[:], f.ofBytes)
	if len(f.ofNumbers) > 0 {
		n.One = f.ofNumbers[0]
	}
	if len(f.ofNumbers) > 1 {
		n.Two = f.ofNumbers[1]
	}
	return n
}

func (f plain) used() []int { return append(slices.Clone(f.ofBytes), f.ofNumbers...) }

// table is a block of numbers.
func table(numbers []int) []byte {
	b := make([]byte, api.Block)
	for i, n := range numbers {
		b[4*i], b[4*i+1], b[4*i+2], b[4*i+3] = byte(n), byte(n>>8), byte(n>>16), byte(n>>24)
	}
	return b
}

// part is what a list has from from to to, as far as there is something.
func part[T any](list []T, from, to int) []T {
	return list[min(from, len(list)):min(to, len(list))]
}

// blocks are what stands in each block of the file.
func (f plain) blocks() map[int][]byte {
	all := map[int][]byte{}
	for i, at := range f.ofBytes {
		all[at] = make([]byte, api.Block)
		copy(all[at], part(f.text, i*512, (i+1)*512))
	}
	for i, at := range f.ofNumbers {
		switch i {
		case 0:
			all[at] = table(part(f.ofBytes, near, far))
		case 1:
			all[at] = table(f.ofNumbers[2:])
		default:
			all[at] = table(part(f.ofBytes, far+(i-2)*128, far+(i-1)*128))
		}
	}
	return all
}

// same holds a file against a plain one: its node, all its blocks, byte by byte, and what Read and Used tell.
func (g *ground) same(x *wal.Txn, n inode.Node, f plain) {
	g.t.Helper()
	if n != f.node() {
		g.t.Fatalf("P802: the node is %v; want %v", n, f.node())
	}
	for at, want := range f.blocks() {
		if b, e := x.Read(at); e != api.OK || !bytes.Equal(b, want) {
			g.t.Fatalf("P802: of %d bytes, block %d is not what it should be (%v):\n%x\nwant\n%x", len(f.text), at, e, b, want)
		}
	}
	g.reads(x, n, f, 0, len(f.text)+1)
	if used, e := Used(x, n); e != api.OK || !slices.Equal(used, f.used()) {
		g.t.Fatalf("P802: Used: %v, %v; want %v", used, e, f.used())
	}
}

// pooled holds the pool against what is taken of the plain one, and what it hands out next.
func (g *ground) pooled(x *wal.Txn) {
	g.t.Helper()
	if free, e := g.pool.Free(x); e != api.OK || free != g.pool.N-len(g.taken) {
		g.t.Fatalf("P802: %d are free, %v; want %d", free, e, g.pool.N-len(g.taken))
	}
	for at := g.pool.First; at < g.pool.First+g.pool.N; at++ {
		if has, e := g.pool.Has(x, at); e != api.OK || has != g.taken[at] {
			g.t.Fatalf("P802: block %d is taken: %v, %v; want %v", at, has, e, g.taken[at])
		}
	}
}

// reads holds one Read against a plain file.
func (g *ground) reads(x Blocks, n inode.Node, f plain, off, count int) {
	g.t.Helper()
	var want []byte
	if off < len(f.text) {
		want = f.text[off:]
		want = want[:min(len(want), count)]
	}
	if b, e := Read(x, n, off, count); e != api.OK || !bytes.Equal(b, want) {
		g.t.Fatalf("P801: Read(%d, %d) of %d bytes: %d bytes, %v; want %d", off, count, n.Size, len(b), e, len(want))
	}
}

// appends holds one Append against a plain file's, and answers both files.
func (g *ground) appends(x *wal.Txn, n inode.Node, f plain, b []byte) (inode.Node, plain) {
	g.t.Helper()
	f = f.twin()
	f.append(g, b)
	n, e := Append(x, g.pool, n, b)
	if e != api.OK {
		g.t.Fatalf("P802: Append of %d bytes to %d: %v", len(b), len(f.text)-len(b), e)
	}
	return n, f
}

// cuts does so with one Cut.
func (g *ground) cuts(x *wal.Txn, n inode.Node, f plain, size int) (inode.Node, plain) {
	g.t.Helper()
	f = f.twin()
	f.cut(g, size)
	was := n.Size
	n, e := Cut(x, g.pool, n, size)
	if e != api.OK {
		g.t.Fatalf("P802: Cut of %d bytes to %d: %v", was, size, e)
	}
	return n, f
}

// text is size bytes, none of them 0, and unlike from block to block.
func text(size int) []byte {
	b := make([]byte, size)
	for i := range b {
		b[i] = byte(1 + (i*7+i/512*13)%255)
	}
	return b
}

// grown is a file of size bytes, that was made by as many transactions as it needs.
func (g *ground) grown(size int) (inode.Node, plain) {
	g.t.Helper()
	n, f := inode.Node{Kind: inode.File, Links: 3}, plain{kind: inode.File, links: 3}
	all := text(size)
	for len(all) > 0 {
		piece := all[:min(len(all), 40*512)]
		all = all[len(piece):]
		g.do(func(x *wal.Txn) { n, f = g.appends(x, n, f, piece) })
	}
	return n, f
}

// state is all blocks of the log as x has them, one behind the other, and how many it has written.
func (g *ground) state(x *wal.Txn) (string, int) {
	g.t.Helper()
	var all bytes.Buffer
	for at := range g.log.Blocks() {
		b, e := x.Read(at)
		if e != api.OK {
			g.t.Fatalf("Read(%d): %v", at, e)
		}
		all.Write(b)
	}
	return all.String(), x.Writes()
}

// unchanged checks that a call leaves all as it was.
func (g *ground) unchanged(x *wal.Txn, name string, call func()) {
	g.t.Helper()
	was, writes := g.state(x)
	call()
	if is, now := g.state(x); is != was || now != writes {
		g.t.Errorf("P5: %s changed something", name)
	}
	g.pooled(x)
}

// pack writes to so many blocks that are neither the pool's nor its map's.
func (g *ground) pack(x *wal.Txn, count int) {
	g.t.Helper()
	for i := range count {
		if e := x.Write(g.log.Blocks()-1-i, make([]byte, api.Block)); e != api.OK {
			g.t.Fatalf("Write: %v", e)
		}
	}
}

func refusesAppend(t *testing.T, x *wal.Txn, p alloc.Pool, n inode.Node, b []byte, want api.Errno) {
	t.Helper()
	if got, e := Append(x, p, n, b); e != want || got != (inode.Node{}) {
		t.Errorf("P802: Append of %d bytes to %d: %v, %v; want no node, %v", len(b), n.Size, got, e, want)
	}
}

func refusesCut(t *testing.T, x *wal.Txn, p alloc.Pool, n inode.Node, size int, want api.Errno) {
	t.Helper()
	if got, e := Cut(x, p, n, size); e != want || got != (inode.Node{}) {
		t.Errorf("P802: Cut of %d bytes to %d: %v, %v; want no node, %v", n.Size, size, got, e, want)
	}
}

func refusesPut(t *testing.T, x *wal.Txn, n inode.Node, off int, b []byte, want api.Errno) {
	t.Helper()
	if e := Put(x, n, off, b); e != want {
		t.Errorf("P802: Put of %d bytes at %d of %d: %v; want %v", len(b), off, n.Size, e, want)
	}
}

func refusesRead(t *testing.T, x Blocks, n inode.Node, off, count int, want api.Errno) {
	t.Helper()
	if b, e := Read(x, n, off, count); e != want || len(b) != 0 {
		t.Errorf("P801: Read(%d, %d) of %d bytes: %d bytes, %v; want none, %v", off, count, n.Size, len(b), e, want)
	}
}

func refusesUsed(t *testing.T, x Blocks, n inode.Node, want api.Errno) {
	t.Helper()
	if list, e := Used(x, n); e != want || len(list) != 0 {
		t.Errorf("P802: Used of %d bytes: %v, %v; want none, %v", n.Size, list, e, want)
	}
}

func (g *ground) twinTaken() map[int]bool { return maps.Clone(g.taken) }

func (f plain) blocksInAll() int { return len(f.ofBytes) + len(f.ofNumbers) }
