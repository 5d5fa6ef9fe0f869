package tree

import (
	"testing"

	"mailbag/api"
)

func TestCreate(t *testing.T) {
	g := newGround(t, 10, 10, create("/f"))
	g.free(9, 8)
	stats(t, g.tree, "/f", Info{})
	reads(t, g.tree, "/f", "", api.OK)
	lists(t, g.tree, "/", api.OK, "f")
	g.ok(mkdir("/d"), create("/d/f"), create("/d/g"))
	g.free(8, 5)
	g.has("/d/ /d/f /d/g /f")
}

func TestMkdir(t *testing.T) {
	g := newGround(t, 10, 10, mkdir("/d"))
	g.free(9, 8)
	stats(t, g.tree, "/d", Info{Dir: true})
	lists(t, g.tree, "/d", api.OK)
	g.ok(mkdir("/d/d"), mkdir("/d/d/d"), mkdir("/d/e"))
	g.free(7, 5)
	g.has("/d/ /d/d/ /d/d/d/ /d/e/")
	stats(t, g.tree, "/d", Info{Dir: true, Kids: 2})
}

// TestUseless: what a kind has no use for is not looked at.
func TestUseless(t *testing.T) {
	g := newGround(t, 10, 10)
	long := make([]byte, 20000)
	g.ok(Op{Kind: Create, Path: "/f", To: "wrong", Data: long, N: -1}, Op{Kind: Mkdir, Path: "/d", To: "//", Data: long, N: 99},
		Op{Kind: Append, Path: "/f", To: "/d/x/y", Data: []byte("mail"), N: -7}, Op{Kind: Cut, Path: "/f", To: "x", Data: long, N: 3},
		Op{Kind: Rename, Path: "/f", To: "/g", Data: long, N: -1})
	reads(t, g.tree, "/g", "mai", api.OK)
	g.free(8, 7)
	g.ok(Op{Kind: Unlink, Path: "/g", To: many(300, "x"), Data: long, N: -1}, Op{Kind: Rmdir, Path: "/d", To: "", Data: long, N: 5})
	g.has("")
}

func TestWhatIsThere(t *testing.T) {
	g := newGround(t, 10, 10, mkdir("/d"), create("/f"), create("/d/f"), mkdir("/d/d"))
	for _, s := range []string{"/", "/d", "/f", "/d/f", "/d/d"} {
		g.refuses(api.ErrExists, create(s), mkdir(s))
	}
}

// TestWays: names on the way that are not there, or are files.
func TestWays(t *testing.T) {
	g := newGround(t, 10, 10, mkdir("/d"), create("/f"), create("/d/f"))
	for _, s := range []string{"/x/y", "/d/x/y", "/x/f", "/x/d/f", "/d/d/d/d/d/d/d/d", "/D/f"} {
		g.refuses(api.ErrNone, all(s)...)
		g.refuses(api.ErrNone, rename("/f", s), rename(s, "/g"), rename(s, s), rename("/d", s))
		unknown(t, g.tree, s, api.ErrNone)
	}
	for _, s := range []string{"/f/x", "/f/f", "/f/x/y", "/d/f/x", "/d/f/x/y/z", "/f/1/2/3/4/5/6/7"} {
		g.refuses(api.ErrFile, all(s)...)
		g.refuses(api.ErrFile, rename("/f", s), rename(s, "/g"), rename(s, s), rename("/d", s))
		unknown(t, g.tree, s, api.ErrFile)
	}
}

// all are acts of all kinds but Rename.
func all(s string) []Op {
	return []Op{create(s), mkdir(s), add(s, "x"), add(s, ""), cut(s, 0), cut(s, -1), unlink(s), rmdir(s)}
}

func TestDepth(t *testing.T) {
	g := newGround(t, 20, 20)
	s := ""
	for i := range 7 {
		s += "/" + string(rune('a'+i))
		g.ok(mkdir(s))
	}
	g.ok(create(s+"/f"), add(s+"/f", "deep"), mkdir(s+"/g"))
	reads(t, g.tree, s+"/f", "deep", api.OK)
	stats(t, g.tree, s, Info{Dir: true, Kids: 2})
	for _, long := range []string{s + "/g/x", s + "/f/x", s + "/x/y", "/1/2/3/4/5/6/7/8/9"} {
		g.refuses(api.ErrLong, all(long)...)
		g.refuses(api.ErrLong, rename(long, "/x"), rename("/a", long), rename(s+"/f", long))
		unknown(t, g.tree, long, api.ErrLong)
	}
	g.ok(rename(s+"/f", s+"/h"), rename(s+"/g", "/g"), cut(s+"/h", 1), unlink(s+"/h"), rmdir("/g"))
}

func TestNames(t *testing.T) {
	g := newGround(t, 40, 40)
	for _, s := range []string{"/" + many(48, "n"), "/!", "/~", "/...", "/.a", "/a.b,c", "/-", "/%2F", "/A", "/a"} {
		g.ok(mkdir(s), create(s+s))
		stats(t, g.tree, s, Info{Dir: true, Kids: 1})
	}
	wrong := []string{"", "x", "//", "/x/", "/a/", "//a", "/a//b", "/.", "/..", "/a/..", "/a/../b", "/ ", "/a b", "/\x7f", "/\x00", "/é", "/\xff", "/" + many(49, "n"), "a/b", "/\n"}
	for _, s := range wrong {
		g.refuses(api.ErrName, all(s)...)
		g.refuses(api.ErrName, rename(s, "/x"), rename("/a", s), rename(s, s))
		unknown(t, g.tree, s, api.ErrName)
	}
	for _, s := range []string{many(257, "x"), "/" + many(256, "x"), many(129, "/x"), many(100000, "/"), many(9, "/x")} {
		g.refuses(api.ErrLong, all(s)...)
		g.refuses(api.ErrLong, rename(s, "/x"), rename("/a", s))
		unknown(t, g.tree, s, api.ErrLong)
	}
}

func TestLongestPath(t *testing.T) {
	g := newGround(t, 40, 40)
	s := ""
	for range 5 {
		s += "/" + many(48, "d")
		g.ok(mkdir(s))
	}
	g.ok(create(s+"/"+many(10, "f")), add(s+"/"+many(10, "f"), "mail"))
	reads(t, g.tree, s+"/"+many(10, "f"), "mail", api.OK)
	g.refuses(api.ErrLong, create(s+"/"+many(11, "f")))
	unknown(t, g.tree, s+"/"+many(11, "f"), api.ErrLong)
}

func TestNoKind(t *testing.T) {
	g := newGround(t, 10, 10, create("/f"), mkdir("/d"))
	for _, kind := range []int{0, -1, 8, 9, 100, -7, 1 << 40, -1 << 63, 1<<63 - 1, 1<<32 + 1, 1<<8 + 1} {
		for _, s := range []string{"/", "/f", "/d", "/x", "/x/y", "/f/y", "", "x", many(300, "/")} {
			g.refuses(api.ErrArg, Op{Kind: kind, Path: s, To: "/g", Data: []byte("x"), N: 0}, Op{Kind: kind, Path: s, To: "//", N: -1})
		}
	}
	g.refuses(api.ErrArg, Op{Path: "/"})
	g.refuses(api.ErrArg, Op{})
}
