package fs

import (
	"testing"

	"mailbag/api"
	"mailbag/inode"
	"mailbag/tree"
)

// TestOrder: P6: each act has several errors, and the first one is told. /g, /h and
// /d/f are open; there is no room; 8193 bytes are too many for one Append.
func TestOrder(t *testing.T) {
	t.Parallel()
	long, deep := "/"+many(300, "x"), many(9, "/x")
	most := inode.Most()
	g := newGround(t, 30, mkdir("/d"), create("/d/f"), mkdir("/d/e"), create("/g"), add("/g", "x"), create("/h"), create("/i"), create("/eat"))
	for _, s := range []string{"/g", "/h", "/d/f", "/h"} {
		g.opens(s)
	}
	g.eat("/eat", 0)
	for _, c := range []struct {
		want api.Errno
		ops  []tree.Op
	}{
		{api.ErrArg, []tree.Op{{Kind: 8, Path: long, To: "x"}, {Kind: 0, Path: "x", To: long}, {Kind: -1, Path: "/g/y", Data: make([]byte, 9000)}}},
		{api.ErrLong, []tree.Op{rename(long, "x"), rename(deep, "x"), rename("/x/y", long), rename("/", deep), rename("/g/y", deep), rename("/x", long), cut(deep, -1), rename("/i", deep)}},
		{api.ErrName, []tree.Op{rename("x", long), rename("/a/", deep), rename("/x/y", "y"), rename("/", "y"), rename("/g/y", "//"), rename("/x", ""), cut("x", -1), grow("x", most+1)}},
		{api.ErrNone, []tree.Op{create("/x/y"), mkdir("/x/y"), grow("/x/y", most+1), cut("/x/y", -1), unlink("/x/y"), rmdir("/x/y"), rename("/x/y", "/"), rename("/x/y", "/g/y"), rename("/x/y", "/g")}},
		{api.ErrFile, []tree.Op{create("/g/y"), mkdir("/g/y"), grow("/g/y", most+1), cut("/g/y", -1), unlink("/g/y"), rmdir("/g/y"), rename("/g/y", "/"), rename("/g/y", "/x/y"), rename("/g/y", "/h")}},
		{api.ErrExists, []tree.Op{create("/d"), create("/g"), create("/"), mkdir("/d/f"), mkdir("/d/e")}},
		{api.ErrFull, []tree.Op{create("/d/e/y"), mkdir("/d/e/y")}},
		{api.ErrNone, []tree.Op{grow("/y", most+1), grow("/y", 8193), grow("/d/e/y", most+1), unlink("/y"), cut("/y", -1)}},
		{api.ErrDir, []tree.Op{grow("/d", most+1), grow("/", 8193), grow("/d/e", 600), cut("/d", -1), cut("/", 1)}},
		// of the most bytes tree's ErrLong is ahead of ErrFull, and ErrFull ahead of that 8192 are the most
		{api.ErrLong, []tree.Op{grow("/g", most), grow("/g", most+1), grow("/d/f", most+1)}},
		{api.ErrFull, []tree.Op{grow("/g", most-1), grow("/g", 8193), grow("/g", 8704), grow("/g", 512), grow("/h", 1), grow("/d/f", most), grow("/d/f", 8193)}},
		{api.ErrArg, []tree.Op{cut("/g", -1), cut("/g", 2), cut("/h", 1)}},
		{api.ErrDir, []tree.Op{unlink("/"), unlink("/d"), unlink("/d/e")}},
		{api.ErrBusy, []tree.Op{unlink("/g"), unlink("/h"), unlink("/d/f")}},
		{api.ErrFile, []tree.Op{rmdir("/g"), rmdir("/d/f")}},
		{api.ErrBusy, []tree.Op{rmdir("/"), rmdir("/d")}},
		{api.ErrNone, []tree.Op{rename("/y", "/"), rename("/y", "/y"), rename("/y", "/x/y"), rename("/y", "/g/y"), rename("/y", "/y/z"), rename("/y", "/d"), rename("/y", "/g")}},
		{api.ErrBusy, []tree.Op{rename("/", "/x/y"), rename("/", "/g/y"), rename("/", "/d"), rename("/", "/g"), rename("/g", "/"), rename("/d", "/")}},
		{api.ErrNone, []tree.Op{rename("/d", "/d/x/y"), rename("/g", "/x/y"), rename("/d", "/x/y")}},
		{api.ErrFile, []tree.Op{rename("/d", "/d/f/y"), rename("/g", "/g/y"), rename("/d", "/g/y"), rename("/g", "/d/f/y")}},
		{api.ErrBusy, []tree.Op{rename("/d", "/d/e"), rename("/d", "/d/f"), rename("/d", "/d/e/y"), rename("/d", "/d/y")}},
		{api.OK, []tree.Op{rename("/d", "/d"), rename("/g", "/g"), rename("/d/f", "/d/f")}},
		{api.ErrDir, []tree.Op{rename("/g", "/d"), rename("/d/f", "/d"), rename("/g", "/d/e")}},
		{api.ErrFile, []tree.Op{rename("/d", "/g"), rename("/d/e", "/d/f")}},
		{api.ErrBusy, []tree.Op{rename("/d/e", "/d"), rename("/i", "/g"), rename("/g", "/h"), rename("/h", "/d/f"), rename("/eat", "/h")}},
		{api.ErrFull, []tree.Op{rename("/g", "/d/e/y"), rename("/d/f", "/d/e/f"), rename("/i", "/d/e/y")}},
	} {
		g.refuses(c.want, c.ops...)
	}
	g.has("/d/ /d/e/ /d/f /eat /g /h /i")
	sound(t, g.fs)
}

// TestOrderOfNumbers: ErrBad is ahead of ErrArg, and of what an Append's bytes come to.
func TestOrderOfNumbers(t *testing.T) {
	g := newGround(t, 30, create("/f"), create("/eat"))
	fd := g.opens("/f")
	g.eat("/eat", 0)
	for _, bad := range []int{-1, 1, 32} {
		g.reads(bad, -1, 1, "", api.ErrBad)
		g.reads(bad, 1, -1, "", api.ErrBad)
		for _, n := range []int{1, 8193, inode.Most() + 1} {
			if e := g.fs.Append(bad, make([]byte, n)); e != api.ErrBad {
				t.Errorf("P1203: Append to %d: %v", bad, e)
			}
		}
	}
	g.reads(fd, -1, 1, "", api.ErrArg)
	for n, want := range map[int]api.Errno{0: api.OK, 1: api.ErrFull, 8193: api.ErrFull, inode.Most(): api.ErrFull, inode.Most() + 1: api.ErrLong} {
		if e := g.appends(fd, letters(n)); e != want {
			t.Errorf("P1203: Append of %d bytes: %v; want %v", n, e, want)
		}
	}
}

// TestRefusedLeavesSlots: what no call tells at once is left as it was, too: slots,
// blocks and inodes that a refused act would have taken, or freed.
func TestRefusedLeavesSlots(t *testing.T) {
	g := newGround(t, 4, mkdir("/d"), mkdir("/e"))
	g.fill("/d", 0, 8)
	g.fill("/e", 0, 7)
	g.ok(create("/eat"), grow("/eat", 512))
	g.free(0, 256-19)
	g.sync()
	was := g.disk.Image()
	for range 5 {
		g.refuses(api.ErrFull, create("/d/x"), mkdir("/d/x"), rename("/e/f1", "/d/x"), grow("/eat", 1), grow("/e/f1", 600))
		g.refuses(api.ErrExists, create("/e/f1"), mkdir("/e/f2"))
		g.refuses(api.ErrNone, unlink("/e/x"), rename("/e/f1", "/x/y"))
		g.refuses(api.ErrDir, unlink("/e"), rename("/e/f1", "/d"))
		g.refuses(api.ErrBusy, rmdir("/e"), rename("/e", "/e/x"), rename("/e", "/d"))
		g.refuses(api.ErrArg, cut("/eat", 513), cut("/eat", -1))
	}
	g.sync()
	if string(g.disk.Image()) != string(was) {
		t.Error("P5: acts that were refused changed the disk")
	}
	g.ok(create("/e/x"))
	g.refuses(api.ErrFull, create("/e/y"), create("/d/y"))
	g.ok(cut("/eat", 0), create("/d/x"))
	g.free(0, 256-21)
	g.refuses(api.ErrFull, create("/e/y"))
	sound(t, g.fs)
}
