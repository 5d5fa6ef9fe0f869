package tree

import (
	"testing"

	"mailbag/api"
	"mailbag/inode"
)

// TestOrder: P6: each act has several errors, and the first one is told.
func TestOrder(t *testing.T) {
	long, deep := "/"+many(300, "x"), many(9, "/x")
	most := inode.Most()
	g := newGround(t, 3, 6, mkdir("/d"), create("/d/f"), mkdir("/d/e"), create("/g"), add("/g", "x"), create("/h"))
	g.free(0, 0)
	for _, c := range []struct {
		want api.Errno
		ops  []Op
	}{
		// no kind, ahead of all
		{api.ErrArg, []Op{{Kind: 8, Path: long, To: "x"}, {Kind: 0, Path: "x", To: long}, {Kind: -1, Path: "/x/y"}, {Kind: 9, Path: "/g/y"}}},
		// Split's, of Path, then of To, ahead of what there is
		{api.ErrLong, []Op{rename(long, "x"), rename(deep, "x"), rename("/x/y", long), rename("/", deep), rename("/g/y", deep), rename("/x", long), cut(deep, -1)}},
		{api.ErrName, []Op{rename("x", long), rename("/a/", deep), rename("/x/y", "y"), rename("/", "y"), rename("/g/y", "//"), rename("/x", ""), cut("x", -1), grow("x", most+1)}},
		// the way, ahead of the act's own
		{api.ErrNone, []Op{create("/x/y"), mkdir("/x/y"), grow("/x/y", most+1), cut("/x/y", -1), unlink("/x/y"), rmdir("/x/y"), rename("/x/y", "/"), rename("/x/y", "/g/y")}},
		{api.ErrFile, []Op{create("/g/y"), mkdir("/g/y"), grow("/g/y", most+1), cut("/g/y", -1), unlink("/g/y"), rmdir("/g/y"), rename("/g/y", "/"), rename("/g/y", "/x/y")}},
		// Create, Mkdir
		{api.ErrExists, []Op{create("/d"), create("/g"), create("/"), mkdir("/d/f"), mkdir("/d/e")}},
		{api.ErrFull, []Op{create("/y"), mkdir("/y"), create("/d/y"), mkdir("/d/e/y"), create("/d/e/y")}},
		// Append
		{api.ErrNone, []Op{grow("/y", most+1), grow("/y", 600), grow("/d/e/y", most+1)}},
		{api.ErrDir, []Op{grow("/d", most+1), grow("/", most+1), grow("/d/e", 600)}},
		{api.ErrLong, []Op{grow("/g", most), grow("/g", most+1), grow("/d/f", most+1)}},
		{api.ErrFull, []Op{grow("/g", most-1), grow("/g", 512), grow("/h", 1), grow("/d/f", most)}},
		// Cut
		{api.ErrNone, []Op{cut("/y", -1), cut("/y", 9)}},
		{api.ErrDir, []Op{cut("/d", -1), cut("/", 1), cut("/d/e", 9)}},
		{api.ErrArg, []Op{cut("/g", -1), cut("/g", 2), cut("/h", 1)}},
		// Unlink, Rmdir
		{api.ErrDir, []Op{unlink("/"), unlink("/d"), unlink("/d/e")}},
		{api.ErrFile, []Op{rmdir("/g"), rmdir("/d/f")}},
		{api.ErrBusy, []Op{rmdir("/"), rmdir("/d")}},
		// Rename: Path, then a root, then To's way, then To below Path, then what To is, then room
		{api.ErrNone, []Op{rename("/y", "/"), rename("/y", "/y"), rename("/y", "/x/y"), rename("/y", "/g/y"), rename("/y", "/y/z"), rename("/y", "/d")}},
		{api.ErrBusy, []Op{rename("/", "/x/y"), rename("/", "/g/y"), rename("/", "/d"), rename("/", "/g"), rename("/g", "/"), rename("/d", "/")}},
		{api.ErrNone, []Op{rename("/d", "/d/x/y"), rename("/g", "/x/y"), rename("/d", "/x/y")}},
		{api.ErrFile, []Op{rename("/d", "/d/f/y"), rename("/g", "/g/y"), rename("/d", "/g/y"), rename("/g", "/d/f/y")}},
		{api.ErrBusy, []Op{rename("/d", "/d/e"), rename("/d", "/d/f"), rename("/d", "/d/e/y"), rename("/d", "/d/y")}},
		{api.OK, []Op{rename("/d", "/d"), rename("/g", "/g")}},
		{api.ErrDir, []Op{rename("/g", "/d"), rename("/d/f", "/d"), rename("/g", "/d/e")}},
		{api.ErrFile, []Op{rename("/d", "/g"), rename("/d/e", "/d/f")}},
		{api.ErrBusy, []Op{rename("/d/e", "/d")}},
		{api.ErrFull, []Op{rename("/g", "/d/e/y"), rename("/d/f", "/d/e/f")}},
	} {
		g.refuses(c.want, c.ops...)
	}
	g.has("/d/ /d/e/ /d/f /g /h")
	g.free(0, 0)
}

// TestOrderOfAsking: Stat, Read and List: Split's, then the way, then the kind.
func TestOrderOfAsking(t *testing.T) {
	g := newGround(t, 9, 9, mkdir("/d"), create("/d/f"), create("/g"), add("/g", "mail"))
	unknown(t, g.tree, many(300, "x"), api.ErrLong)
	unknown(t, g.tree, "/g"+many(8, "/x"), api.ErrLong)
	unknown(t, g.tree, "/g/", api.ErrName)
	unknown(t, g.tree, "/x/y", api.ErrNone)
	unknown(t, g.tree, "/x", api.ErrNone)
	unknown(t, g.tree, "/d/x", api.ErrNone)
	unknown(t, g.tree, "/g/y", api.ErrFile)
	unknown(t, g.tree, "/d/f/g/h", api.ErrFile)
	for _, s := range []string{"/", "/d"} {
		reads(t, g.tree, s, "", api.ErrDir)
	}
	for _, s := range []string{"/g", "/d/f"} {
		lists(t, g.tree, s, api.ErrFile)
	}
	g.same("asking")
}

// TestRefusedLeavesSlots: what no call tells at once is left as it was, too: slots
// that a refused act would have taken, or freed.
func TestRefusedLeavesSlots(t *testing.T) {
	g := newGround(t, 4, 256, mkdir("/d"), mkdir("/e"))
	g.fill("/d", 0, 8)
	g.fill("/e", 0, 7)
	g.ok(create("/eat"), grow("/eat", 512))
	g.free(0, 256-19)
	for range 20 {
		g.refuses(api.ErrFull, create("/d/x"), mkdir("/d/x"), rename("/e/f1", "/d/x"))
		g.refuses(api.ErrExists, create("/e/f1"), mkdir("/e/f2"))
		g.refuses(api.ErrNone, unlink("/e/x"), rename("/e/f1", "/x/y"))
		g.refuses(api.ErrDir, unlink("/e"), rename("/e/f1", "/d"))
		g.refuses(api.ErrBusy, rmdir("/e"), rename("/e", "/e/x"), rename("/e", "/d"))
	}
	g.ok(create("/e/x"))
	g.refuses(api.ErrFull, create("/e/y"), create("/d/y"))
	g.ok(cut("/eat", 0), create("/d/x"))
	g.free(0, 256-21)
	g.refuses(api.ErrFull, create("/e/y"))
}
