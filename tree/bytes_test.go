package tree

import (
	"bytes"
	"math"
	"testing"

	"mailbag/api"
	"mailbag/inode"
)

func TestAppend(t *testing.T) {
	g := newGround(t, 20, 5, create("/f"), add("/f", "mail"), add("/f", " that"), add("/f", ""), add("/f", " has come"))
	reads(t, g.tree, "/f", "mail that has come", api.OK)
	stats(t, g.tree, "/f", Info{Size: 18})
	g.free(18, 3)
}

// TestAppendOfNothing: it needs nothing, where nothing is left, too.
func TestAppendOfNothing(t *testing.T) {
	g := newGround(t, 1, 2, create("/f"))
	g.free(0, 0)
	g.ok(add("/f", ""), Op{Kind: Append, Path: "/f", Data: nil}, Op{Kind: Append, Path: "/f", Data: []byte{}})
	stats(t, g.tree, "/f", Info{})
	g.refuses(api.ErrFull, add("/f", "x"))
	g.refuses(api.ErrNone, add("/g", ""))
	g.refuses(api.ErrDir, add("/", ""))
}

// TestAppendAtEdges: up to a block's end and over it, where levels begin.
func TestAppendAtEdges(t *testing.T) {
	for _, n := range []int{1, 2, 8, 9, 136, 137, 264, 265, 392, 393} {
		size := n * 512
		for _, from := range []int{0, 1, size - 512, size - 511, size - 1, size} {
			for _, to := range []int{size - 1, size, size + 1, size + 512, size + 513} {
				if from > to {
					continue
				}
				g := newGround(t, 1+needs(to), 2, create("/f"), grow("/f", from))
				g.free(needs(to)-needs(from), 0)
				g.refuses(api.ErrFull, grow("/f", needs(to)*512-from+1))
				g.ok(grow("/f", to-from))
				g.free(0, 0)
				stats(t, g.tree, "/f", Info{Size: to})
			}
		}
	}
	for _, c := range [][2]int{{0, 0}, {1, 1}, {512, 1}, {513, 2}, {4096, 8}, {4097, 10}, {136 * 512, 137}, {136*512 + 1, 140}, {264 * 512, 267}, {264*512 + 1, 269}} {
		if needs(c[0]) != c[1] {
			t.Errorf("the counts of this test are wrong: %d bytes need %d", c[0], needs(c[0]))
		}
	}
}

// TestAsMuchAsThereIsRoom: to the last byte of the last block, and not one more.
func TestAsMuchAsThereIsRoom(t *testing.T) {
	for blocks := 1; blocks < 290; blocks++ {
		n := 0
		for needs((n+1)*512) < blocks {
			n++
		}
		for _, size := range []int{0, 1, n*512 - 1, n * 512} {
			if size < 0 || size > n*512 {
				continue
			}
			x, _ := New(blocks, 2)
			x.Do(create("/f"))
			if e := x.Do(grow("/f", n*512+1)); e != api.ErrFull {
				t.Errorf("P1102: %d bytes where %d blocks are free: %v", n*512+1, blocks-1, e)
			}
			if e := x.Do(grow("/f", size)); e != api.OK {
				t.Errorf("P1102: %d bytes where %d blocks are free: %v", size, blocks-1, e)
			}
			if e := x.Do(grow("/f", n*512-size+1)); e != api.ErrFull {
				t.Errorf("P1102: %d bytes behind %d, of %d blocks: %v", n*512-size+1, size, blocks, e)
			}
			if e := x.Do(grow("/f", n*512-size)); e != api.OK {
				t.Errorf("P1102: %d bytes behind %d, of %d blocks: %v", n*512-size, size, blocks, e)
			}
			if b, i := x.Free(); b != blocks-1-needs(n*512) || i != 0 {
				t.Errorf("P1101: %d, %d are free of %d blocks", b, i, blocks)
			}
		}
	}
}

// TestGreatestFile: no tree has the blocks for the most that a file may have, so up
// to it there is no room, and behind it ErrLong.
func TestGreatestFile(t *testing.T) {
	most := 512 * (8 + 128 + 128*128)
	if inode.Most() != most || needs(most) <= api.MaxBlocks {
		t.Fatal("the limits are others")
	}
	g := newGround(t, 16384, 3, create("/f"), mkdir("/d"))
	n := 0
	for needs((n+1)*512) <= 16383 {
		n++
	}
	g.refuses(api.ErrFull, grow("/f", n*512+1), grow("/f", most-1), grow("/f", most))
	g.refuses(api.ErrLong, grow("/f", most+1), grow("/f", most+512))
	g.refuses(api.ErrDir, grow("/d", most+1), grow("/", most+1))
	g.refuses(api.ErrNone, grow("/g", most+1))
	g.ok(grow("/f", 100))
	g.refuses(api.ErrFull, grow("/f", n*512-100+1), grow("/f", most-100))
	g.refuses(api.ErrLong, grow("/f", most-99))
	g.ok(grow("/f", n*512-100))
	g.free(16383-needs(n*512), 0)
	g.refuses(api.ErrFull, grow("/f", 1), grow("/f", most-n*512))
	g.refuses(api.ErrLong, grow("/f", most-n*512+1), grow("/f", most))
	g.refuses(api.ErrArg, cut("/f", n*512+1))
	g.ok(cut("/f", n*512), cut("/f", 137*512))
	g.free(16383-140, 0)
	g.ok(unlink("/f"))
	g.free(16383, 1)
}

func TestCut(t *testing.T) {
	g := newGround(t, 20, 5, create("/f"), add("/f", "mail that has come"), cut("/f", 18), cut("/f", 9))
	reads(t, g.tree, "/f", "mail that", api.OK)
	g.ok(add("/f", " goes"))
	reads(t, g.tree, "/f", "mail that goes", api.OK)
	g.ok(cut("/f", 4))
	reads(t, g.tree, "/f", "mail", api.OK)
	g.free(18, 3)
	g.ok(cut("/f", 0))
	reads(t, g.tree, "/f", "", api.OK)
	stats(t, g.tree, "/f", Info{})
	g.free(19, 3)
	g.ok(cut("/f", 0), add("/f", "new"))
	reads(t, g.tree, "/f", "new", api.OK)
}

func TestCutRefuses(t *testing.T) {
	g := newGround(t, 20, 5, create("/f"), mkdir("/d"), create("/e"), add("/f", "mail"))
	g.refuses(api.ErrArg, cut("/f", -1), cut("/f", 5), cut("/f", math.MaxInt), cut("/f", math.MinInt), cut("/e", 1), cut("/e", -1), cut("/f", 512))
	g.refuses(api.ErrDir, cut("/d", 0), cut("/d", -1), cut("/d", 1), cut("/", 0), cut("/", 5))
	g.refuses(api.ErrNone, cut("/x", 0), cut("/x", -1), cut("/d/x", 9))
	reads(t, g.tree, "/f", "mail", api.OK)
}

// TestCutGivesBack: to each edge where a block, or a block of numbers, goes.
func TestCutGivesBack(t *testing.T) {
	size := 400 * 512
	x, _ := New(1+needs(size), 2)
	x.Do(create("/f"))
	x.Do(grow("/f", size))
	for n := 400; n >= 0; n-- {
		for _, to := range []int{n*512 + 1, n * 512} {
			if to > size {
				continue
			}
			if e := x.Do(cut("/f", to)); e != api.OK {
				t.Fatalf("P1102: Cut to %d: %v", to, e)
			}
			if b, _ := x.Free(); b != needs(size)-needs(to) {
				t.Errorf("P1101: %d blocks are free of %d behind Cut to %d", b, needs(size), to)
			}
			if b, _ := x.Read("/f"); string(b) != letters(size)[:to] {
				t.Fatalf("P1102: other bytes behind Cut to %d", to)
			}
		}
	}
}

// TestCutMakesRoom: what one file gives back another takes.
func TestCutMakesRoom(t *testing.T) {
	g := newGround(t, 11, 5, create("/f"), create("/g"), grow("/f", 9*512))
	g.free(0, 2)
	g.refuses(api.ErrFull, grow("/g", 1))
	g.ok(cut("/f", 8*512))
	g.free(2, 2)
	g.refuses(api.ErrFull, grow("/g", 1025))
	g.ok(grow("/g", 1024))
	g.free(0, 2)
}

// TestAllBytes: a file may have any of them.
func TestAllBytes(t *testing.T) {
	var data []byte
	for i := range 256 {
		data = append(data, byte(i))
	}
	g := newGround(t, 5, 5, create("/f"), Op{Kind: Append, Path: "/f", Data: data}, Op{Kind: Append, Path: "/f", Data: data}, cut("/f", 300))
	if b, e := g.tree.Read("/f"); e != api.OK || !bytes.Equal(b, append(bytes.Clone(data), data[:44]...)) {
		t.Errorf("P1102: Read: %x, %v", b, e)
	}
}
