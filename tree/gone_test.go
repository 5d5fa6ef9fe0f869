package tree

import (
	"testing"

	"mailbag/api"
)

func TestUnlink(t *testing.T) {
	g := newGround(t, 30, 9, mkdir("/d"), create("/d/f"), grow("/d/f", 20*512), create("/f"))
	g.free(30-2-21, 5)
	g.ok(unlink("/d/f"))
	g.free(28, 6)
	g.has("/d/ /f")
	unknown(t, g.tree, "/d/f", api.ErrNone)
	g.refuses(api.ErrNone, unlink("/d/f"), add("/d/f", "x"), cut("/d/f", 0))
	g.ok(unlink("/f"))
	g.has("/d/")
	g.free(28, 7)
	g.ok(create("/f"))
	stats(t, g.tree, "/f", Info{})
}

func TestUnlinkRefuses(t *testing.T) {
	g := newGround(t, 30, 9, mkdir("/d"), create("/d/f"), mkdir("/e"))
	g.refuses(api.ErrDir, unlink("/"), unlink("/d"), unlink("/e"))
	g.refuses(api.ErrNone, unlink("/x"), unlink("/d/x"), unlink("/f"))
}

func TestRmdir(t *testing.T) {
	g := newGround(t, 30, 20, mkdir("/d"), mkdir("/d/e"), mkdir("/f"))
	g.free(28, 16)
	g.refuses(api.ErrBusy, rmdir("/d"))
	g.ok(rmdir("/d/e"))
	g.free(28, 17)
	g.ok(rmdir("/d"))
	g.free(29, 18)
	g.has("/f/")
	unknown(t, g.tree, "/d", api.ErrNone)
	unknown(t, g.tree, "/d/e", api.ErrNone)
	g.refuses(api.ErrNone, rmdir("/d"), rmdir("/d/e"), create("/d/e"))
	g.ok(mkdir("/d"))
	lists(t, g.tree, "/d", api.OK)
}

// TestRmdirOfWhatWasFull: empty is what has no names, whatever slots it has.
func TestRmdirOfWhatWasFull(t *testing.T) {
	g := newGround(t, 30, 40, mkdir("/d"))
	g.fill("/d", 0, 9)
	g.ok(create("/d/x"), unlink("/d/x"))
	for _, s := range []string{"0", "1", "2", "3", "4", "5", "6", "7", "8"} {
		g.refuses(api.ErrBusy, rmdir("/d"))
		g.ok(unlink("/d/f" + s))
	}
	g.free(27, 38)
	g.ok(rmdir("/d"))
	g.free(29, 39)
}

func TestRmdirRefuses(t *testing.T) {
	g := newGround(t, 30, 9)
	g.refuses(api.ErrBusy, rmdir("/"))
	g.ok(mkdir("/d"), create("/d/f"), create("/g"))
	g.refuses(api.ErrBusy, rmdir("/"), rmdir("/d"))
	g.refuses(api.ErrFile, rmdir("/g"), rmdir("/d/f"))
	g.refuses(api.ErrNone, rmdir("/x"), rmdir("/d/x"))
}
