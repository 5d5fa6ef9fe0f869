package tree

import (
	"fmt"
	"math"
	"testing"

	"mailbag/api"
)

func TestNew(t *testing.T) {
	for _, c := range [][2]int{{0, 1}, {0, 2}, {1, 1}, {1, 256}, {100, 30}, {16383, 255}, {16384, 256}, {16384, 1}, {0, 256}} {
		g := newGround(t, c[0], c[1])
		g.free(c[0], c[1]-1)
		g.has("")
		g.same("New")
		stats(t, g.tree, "/", Info{Dir: true})
		lists(t, g.tree, "/", api.OK)
	}
	if api.MaxBlocks != 16384 || api.MaxInodes != 256 {
		t.Error("the limits are others")
	}
}

func TestNewRefuses(t *testing.T) {
	for _, c := range [][2]int{{-1, 1}, {-1, 256}, {16385, 1}, {16385, 256}, {0, 0}, {0, -1}, {0, 257}, {16384, 257}, {16384, 0}, {-1, 0}, {16385, 257},
		{math.MinInt, 5}, {math.MaxInt, 5}, {5, math.MinInt}, {5, math.MaxInt}} {
		if x, e := New(c[0], c[1]); x != nil || e != api.ErrArg {
			t.Errorf("P1101: New(%d, %d): %v, %v; want nil, arg", c[0], c[1], x, e)
		}
	}
}

// TestTreesAreApart: P7.
func TestTreesAreApart(t *testing.T) {
	g, other := newGround(t, 9, 9), newGround(t, 9, 9)
	g.ok(create("/a"), add("/a", "mail"))
	other.free(9, 8)
	other.has("")
	other.same("acts on another tree")
}

// TestNoInode: a tree of one inode is its root, whatever blocks there are.
func TestNoInode(t *testing.T) {
	g := newGround(t, 16384, 1)
	g.refuses(api.ErrFull, create("/a"), mkdir("/a"), create("/a"))
	g.refuses(api.ErrExists, create("/"), mkdir("/"))
	g.free(16384, 0)
}

// TestNoBlock: what is in the root needs a block, even if it is empty itself.
func TestNoBlock(t *testing.T) {
	g := newGround(t, 0, 256)
	g.refuses(api.ErrFull, create("/a"), mkdir("/a"))
	g.free(0, 255)
}

// TestOneInode: the last one is taken, comes back, and is taken for the other kind.
func TestOneInode(t *testing.T) {
	g := newGround(t, 10, 2, create("/a"))
	g.free(9, 0)
	g.refuses(api.ErrFull, create("/b"), mkdir("/b"))
	g.ok(unlink("/a"))
	g.free(9, 1)
	g.ok(mkdir("/b"))
	g.free(9, 0)
	g.refuses(api.ErrFull, create("/a"), mkdir("/b/a"))
	g.ok(rmdir("/b"), create("/a"))
	g.free(9, 0)
}

// TestOneBlock: the root has it, for eight names; nothing else has any.
func TestOneBlock(t *testing.T) {
	g := newGround(t, 1, 256, mkdir("/d"), create("/f"))
	g.free(0, 253)
	g.refuses(api.ErrFull, create("/d/a"), mkdir("/d/a"), add("/f", "x"), rename("/f", "/d/f"))
	g.ok(add("/f", ""))
	g.fill("", 0, 6)
	g.refuses(api.ErrFull, create("/g"), mkdir("/g"))
	g.free(0, 247)
	g.ok(unlink("/f3"), mkdir("/g"), rename("/f", "/h"), rename("/h", "/f0"))
	g.free(0, 248)
}

// rooted is how many blocks a root of that many names is to have.
func rooted(names int) int {
	n := (names + 7) / 8
	if n > 8 {
		n++ // the block of numbers
	}
	return n
}

// TestRootGrows: name by name, to all inodes that there are; with just the blocks
// that it needs, and with one less ahead of each name that needs more.
func TestRootGrows(t *testing.T) {
	g := newGround(t, 33, 256)
	for n := range 255 {
		g.free(33-rooted(n), 255-n)
		s := fmt.Sprintf("/f%d", n)
		if grows := rooted(n+1) - rooted(n); grows > 0 {
			short := newGround(t, rooted(n+1)-1, 256)
			short.fill("", 0, n)
			short.free(grows-1, 255-n)
			short.refuses(api.ErrFull, create(s), mkdir(s))
		}
		if n%2 == 0 {
			g.ok(create(s))
		} else {
			g.ok(mkdir(s))
		}
	}
	g.free(0, 0)
	g.refuses(api.ErrFull, create("/one"), mkdir("/one"))
	if rooted(64) != 8 || rooted(65) != 10 || rooted(255) != 33 {
		t.Error("the counts of this test are wrong")
	}
}

// TestInnerDirectoryGrows: one that is not the root, with the block there and not there.
func TestInnerDirectoryGrows(t *testing.T) {
	g := newGround(t, 40, 256, mkdir("/d"), create("/eat"))
	g.fill("/d", 0, 8)
	g.free(38, 245)
	g.eat("/eat", 0)
	g.refuses(api.ErrFull, create("/d/x"), mkdir("/d/x"), rename("/eat", "/d/x"))
	g.ok(cut("/eat", needs(1)*512))
	g.ok(create("/d/x"))
	g.fill("/d", 8, 7)
	g.eat("/eat", 1)
	g.ok(mkdir("/d/y"))
	g.refuses(api.ErrFull, grow("/d/f1", 1), create("/d/y/z"))
	g.free(0, 236)
}

// TestNinthBlock: a directory's ninth block needs a block of numbers with it.
func TestNinthBlock(t *testing.T) {
	g := newGround(t, 60, 256, mkdir("/d"), create("/eat"))
	g.fill("/d", 0, 64)
	g.eat("/eat", 1)
	g.refuses(api.ErrFull, create("/d/x"), mkdir("/d/x"), rename("/eat", "/d/x"))
	g.ok(cut("/eat", 512*9))
	g.eat("/eat", 2)
	g.ok(create("/d/x"))
	g.free(0, 188)
}

// TestSlotsStay: slots that became free are taken again, ahead of any growth, and
// their blocks are given back with the directory alone.
func TestSlotsStay(t *testing.T) {
	g := newGround(t, 6, 256, mkdir("/d"))
	g.fill("/d", 0, 17)
	g.free(2, 237)
	for i := range 17 {
		g.ok(unlink(fmt.Sprintf("/d/f%d", i)))
		g.free(2, 238+i)
	}
	g.ok(create("/eat"), grow("/eat", 1024))
	g.free(0, 253)
	g.fill("/d", 100, 17)
	g.refuses(api.ErrFull, grow("/d/f100", 1))
	for i := range 7 {
		g.ok(mkdir(fmt.Sprintf("/d/g%d", i)))
	}
	g.refuses(api.ErrFull, create("/d/x"))
	g.free(0, 229)
}

func TestRoomOfDirectoryComesBack(t *testing.T) {
	g := newGround(t, 20, 256, mkdir("/d"))
	g.fill("/d", 0, 65)
	g.free(20-1-10, 189)
	for i := range 65 {
		g.ok(unlink(fmt.Sprintf("/d/f%d", i)))
	}
	g.free(9, 254)
	g.ok(rmdir("/d"))
	g.free(19, 255)
	g.ok(mkdir("/d"), create("/d/x"))
	g.free(18, 253)
}

// TestAllThatWasMadeIsGone: what is left taken is the root's slots.
func TestAllThatWasMadeIsGone(t *testing.T) {
	g := newGround(t, 500, 40, mkdir("/a"), mkdir("/a/b"), create("/a/b/f"), create("/g"), grow("/g", 512*200), grow("/a/b/f", 9*512), mkdir("/c"),
		rename("/a/b", "/c/d"), rename("/g", "/a/g"), create("/a/h"), rename("/a/g", "/a/h"))
	g.free(500-200-3-10-4, 34)
	g.ok(unlink("/a/h"), unlink("/c/d/f"), rmdir("/c/d"), rmdir("/c"), rmdir("/a"))
	g.has("")
	g.free(499, 39)
}
