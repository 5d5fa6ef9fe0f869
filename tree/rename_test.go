package tree

import (
	"fmt"
	"testing"

	"mailbag/api"
)

func TestRenameWithin(t *testing.T) {
	g := newGround(t, 30, 20, mkdir("/d"), create("/d/f"), add("/d/f", "mail"), mkdir("/d/e"), create("/d/e/x"))
	g.free(26, 15)
	g.ok(rename("/d/f", "/d/g"), rename("/d/e", "/d/a"), rename("/d", "/c"))
	g.has("/c/ /c/a/ /c/a/x /c/g")
	reads(t, g.tree, "/c/g", "mail", api.OK)
	unknown(t, g.tree, "/d", api.ErrNone)
	unknown(t, g.tree, "/c/f", api.ErrNone)
	g.free(26, 15)
}

// TestRenameWithinAFullDirectory: the slot has the other name, and nothing grows.
func TestRenameWithinAFullDirectory(t *testing.T) {
	g := newGround(t, 1, 9)
	g.fill("", 0, 8)
	g.free(0, 0)
	g.ok(rename("/f3", "/x"), rename("/x", "/y"), rename("/f0", "/f3"))
	g.has("/f1 /f2 /f3 /f4 /f5 /f6 /f7 /y")
	g.free(0, 0)
	g.ok(unlink("/y"), mkdir("/z"))
	g.refuses(api.ErrFull, create("/w"))
	g.free(0, 0)
}

func TestRenameInto(t *testing.T) {
	g := newGround(t, 30, 20, mkdir("/d"), create("/d/f"), add("/d/f", "mail"), mkdir("/d/e"), create("/d/e/x"), mkdir("/o"))
	g.free(26, 14)
	g.ok(rename("/d/f", "/o/g"))
	g.has("/d/ /d/e/ /d/e/x /o/ /o/g")
	g.free(25, 14)
	g.ok(rename("/d/e", "/o/e"))
	g.has("/d/ /o/ /o/e/ /o/e/x /o/g")
	g.free(25, 14)
	g.ok(rename("/o/e/x", "/x"), rename("/o", "/d/o"))
	g.has("/d/ /d/o/ /d/o/e/ /d/o/g /x")
	reads(t, g.tree, "/d/o/g", "mail", api.OK)
	g.free(25, 14)
	g.ok(rename("/d/o/g", "/g"), rename("/d/o/e", "/e"), rmdir("/d/o"), rmdir("/d"))
	g.has("/e/ /g /x")
	g.free(27, 16)
}

// TestRenameToItself does nothing, in a full tree, too, and of a directory that is not empty.
func TestRenameToItself(t *testing.T) {
	g := newGround(t, 3, 5, mkdir("/d"), create("/d/f"), add("/d/f", "mail"), mkdir("/e"))
	g.ok(rename("/d", "/d"), rename("/d/f", "/d/f"), rename("/e", "/e"))
	g.has("/d/ /d/f /e/")
	g.free(0, 1)
	g.refuses(api.ErrBusy, rename("/", "/"))
	g.refuses(api.ErrNone, rename("/x", "/x"), rename("/x/y", "/x/y"))
}

func TestRenameOverAFile(t *testing.T) {
	g := newGround(t, 60, 20, mkdir("/d"), create("/a"), add("/a", "new"), create("/b"), grow("/b", 9*512), create("/d/c"), grow("/d/c", 512))
	g.free(60-2-1-10-1, 15)
	g.ok(rename("/a", "/b"))
	g.has("/b /d/ /d/c")
	reads(t, g.tree, "/b", "new", api.OK)
	g.free(60-2-1-1, 16)
	g.ok(rename("/b", "/d/c"))
	g.has("/d/ /d/c")
	reads(t, g.tree, "/d/c", "new", api.OK)
	g.free(60-2-1, 17)
}

// TestRenameOverLeavesASlot: the slot of To is taken, that of Path is free.
func TestRenameOverLeavesASlot(t *testing.T) {
	g := newGround(t, 2, 20, mkdir("/d"))
	g.fill("/d", 0, 8)
	g.free(0, 10)
	g.ok(rename("/d/f0", "/d/f1"))
	g.free(0, 11)
	g.ok(create("/d/x"))
	g.refuses(api.ErrFull, create("/d/y"))
	g.ok(create("/a"), rename("/a", "/d/x"))
	g.refuses(api.ErrFull, create("/d/y"))
	g.fill("", 1, 7)
	g.refuses(api.ErrFull, create("/y"))
	g.ok(rename("/f1", "/d/x"), create("/y"))
	g.refuses(api.ErrFull, create("/z"))
	g.ok(rename("/d/x", "/y"), create("/d/w"))
	g.refuses(api.ErrFull, create("/z"), create("/d/z"))
}

func TestRenameOverADirectory(t *testing.T) {
	g := newGround(t, 60, 90, mkdir("/a"), create("/a/f"), mkdir("/b"), mkdir("/c"), create("/c/x"), mkdir("/c/d"))
	g.fill("/b", 0, 9)
	g.refuses(api.ErrBusy, rename("/a", "/b"), rename("/a", "/c"), rename("/c/d", "/c"), rename("/c/d", "/b"))
	for i := range 9 {
		g.ok(unlink(fmt.Sprintf("/b/f%d", i)))
	}
	g.free(60-1-1-2-1, 83)
	g.ok(rename("/a", "/b"))
	g.has("/b/ /b/f /c/ /c/d/ /c/x")
	g.free(60-1-1-1, 84)
	g.ok(rename("/b", "/c/d"))
	g.has("/c/ /c/d/ /c/d/f /c/x")
	g.free(60-1-1-1, 85)
	g.ok(mkdir("/e"), rename("/c/d", "/e"))
	g.has("/c/ /c/x /e/ /e/f")
	g.free(60-1-1-1, 85)
	g.ok(mkdir("/g"), mkdir("/h"), rename("/g", "/h"))
	g.has("/c/ /c/x /e/ /e/f /h/")
}

func TestRenameOverTheOtherKind(t *testing.T) {
	g := newGround(t, 30, 20, create("/f"), mkdir("/d"), mkdir("/e"), create("/e/x"), mkdir("/e/y"))
	g.refuses(api.ErrDir, rename("/f", "/d"), rename("/f", "/e"), rename("/f", "/e/y"), rename("/e/x", "/e"), rename("/e/x", "/e/y"), rename("/e/x", "/d"))
	g.refuses(api.ErrFile, rename("/d", "/f"), rename("/e", "/f"), rename("/e/y", "/e/x"), rename("/d", "/e/x"))
}

// TestRenameBelowItself: also of names that are not there yet; not of names that begin alike.
func TestRenameBelowItself(t *testing.T) {
	g := newGround(t, 30, 20, mkdir("/a"), mkdir("/a/b"), mkdir("/a/b/c"), create("/a/b/f"), mkdir("/ab"))
	g.refuses(api.ErrBusy, rename("/a", "/a/b"), rename("/a", "/a/x"), rename("/a", "/a/b/c"), rename("/a", "/a/b/c/x"), rename("/a", "/a/b/f"),
		rename("/a/b", "/a/b/c"), rename("/a/b", "/a/b/x"), rename("/a", "/a/a"), rename("/ab", "/ab/ab"))
	g.refuses(api.ErrNone, rename("/a", "/a/x/y"), rename("/a/b", "/a/b/x/y"))
	g.refuses(api.ErrFile, rename("/a", "/a/b/f/x"), rename("/a/b/f", "/a/b/f/x"))
	g.ok(rename("/a", "/ab/a"), rename("/ab/a/b", "/ab/ab"), rename("/ab/ab", "/a"))
	g.has("/a/ /a/c/ /a/f /ab/ /ab/a/")
}

func TestRenameUpwards(t *testing.T) {
	g := newGround(t, 30, 20, mkdir("/a"), mkdir("/a/b"), mkdir("/a/b/c"), create("/a/b/c/f"), create("/a/g"))
	g.refuses(api.ErrBusy, rename("/a/b", "/a"), rename("/a/b/c", "/a"), rename("/a/b/c", "/a/b"))
	g.refuses(api.ErrDir, rename("/a/b/c/f", "/a"), rename("/a/b/c/f", "/a/b/c"), rename("/a/g", "/a"))
	g.ok(rename("/a/b/c", "/c"), rename("/c/f", "/a/g"), rename("/a/b", "/c"))
	g.has("/a/ /a/g /c/")
}

func TestRenameOfTheRoot(t *testing.T) {
	g := newGround(t, 30, 20, mkdir("/a"), create("/f"))
	g.refuses(api.ErrBusy, rename("/", "/"), rename("/", "/a"), rename("/", "/x"), rename("/", "/f"), rename("/", "/a/x"), rename("/", "/x/y"), rename("/", "/f/y"),
		rename("/a", "/"), rename("/f", "/"))
	g.refuses(api.ErrNone, rename("/x", "/"), rename("/x/y", "/"), rename("/a/y", "/"))
	g.refuses(api.ErrFile, rename("/f/x", "/"))
}

// TestRenameIntoWhatMustGrow: with the room for it, and without.
func TestRenameIntoWhatMustGrow(t *testing.T) {
	for _, names := range []int{0, 8, 16, 64} {
		g := newGround(t, 100, 200, mkdir("/d"), create("/eat"), create("/f"), mkdir("/e"), mkdir("/e/x"))
		g.fill("/d", 0, names)
		grows := rooted(names+1) - rooted(names)
		g.eat("/eat", grows-1)
		g.refuses(api.ErrFull, rename("/f", "/d/x"), rename("/e", "/d/e"), rename("/e/x", "/d/x"), rename("/eat", "/d/x"))
		g.ok(rename("/f", "/f0"), rename("/e/x", "/e/y"), rename("/f0", "/f"), rename("/e/y", "/e/x"))
		if names > 0 {
			g.ok(rename("/f", "/d/f0"), create("/f"))
		}
		g.ok(cut("/eat", 512*20))
		g.eat("/eat", grows)
		g.ok(rename("/f", "/d/x"))
		g.free(0, 200-6-names)
		g.ok(rename("/e/x", "/d/y"), rename("/d/y", "/d/z"), rename("/e", "/d/e"))
		g.free(0, 200-6-names)
	}
}

// TestRenameIntoASlotThatBecameFree needs no block.
func TestRenameIntoASlotThatBecameFree(t *testing.T) {
	g := newGround(t, 2, 20, mkdir("/d"), create("/f"), create("/g"))
	g.fill("/d", 0, 8)
	g.refuses(api.ErrFull, rename("/f", "/d/f"))
	g.ok(unlink("/d/f5"), rename("/f", "/d/f"))
	g.refuses(api.ErrFull, rename("/g", "/d/g"))
	g.ok(rename("/d/f1", "/h"), rename("/g", "/d/g"))
	g.has("/d/ /d/f /d/f0 /d/f2 /d/f3 /d/f4 /d/f6 /d/f7 /d/g /h")
}

// TestRenameDeeper: no error is named for what stands below a path that becomes too
// deep, or too long: it is there, till it comes back.
func TestRenameDeeper(t *testing.T) {
	g := newGround(t, 60, 60, mkdir("/a"), mkdir("/a/a"), mkdir("/a/a/a"), create("/a/a/a/f"), add("/a/a/a/f", "deep"))
	up := ""
	for range 6 {
		up += "/b"
		g.ok(mkdir(up))
	}
	g.ok(rename("/a", up+"/a"))
	unknown(t, g.tree, up+"/a/a/a", api.ErrLong)
	stats(t, g.tree, up+"/a/a", Info{Dir: true, Kids: 1})
	lists(t, g.tree, up+"/a/a", api.OK, "a")
	g.refuses(api.ErrBusy, rmdir(up+"/a/a"))
	g.refuses(api.ErrLong, unlink(up+"/a/a/a/f"), rmdir(up+"/a/a/a"))
	other := g.tree.Twin()
	if !Same(g.tree, other) || tell(g.tree) != tell(other) {
		t.Error("P1102: a twin of what is deep is another tree")
	}
	g.ok(rename("/b/b", "/c"), rename("/c/b/b/b/b/a", "/a"))
	reads(t, g.tree, "/a/a/a/f", "deep", api.OK)
	long := "/" + many(48, "l")
	g.ok(mkdir(long), mkdir(long+long), mkdir(long+long+long), mkdir(long+long+long+long), mkdir("/d"), create("/d"+long), rename("/d", long+long+long+long+long))
	unknown(t, g.tree, many(6, long), api.ErrLong)
	g.ok(rename(many(5, long), "/d"))
	stats(t, g.tree, "/d"+long, Info{})
	if Same(g.tree, other) {
		t.Error("P1102: unlike trees are the same")
	}
}
