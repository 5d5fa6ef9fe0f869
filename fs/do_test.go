package fs

import (
	"bytes"
	"fmt"
	"math"
	"testing"

	"mailbag/api"
	"mailbag/inode"
	"mailbag/tree"
)

func TestCreate(t *testing.T) {
	g := newGround(t, 10, create("/f"))
	g.free(9, 254)
	g.ok(mkdir("/d"), create("/d/f"), create("/d/g"))
	g.free(8, 251)
	g.has("/d/ /d/f /d/g /f")
	g.refuses(api.ErrExists, create("/"), create("/f"), create("/d"), create("/d/f"), mkdir("/"), mkdir("/f"), mkdir("/d"), mkdir("/d/f"))
	g.again()
}

// TestSlots: a directory takes a block with its first name, and with each eighth behind it.
func TestSlots(t *testing.T) {
	t.Parallel()
	g := newGround(t, 60, mkdir("/d"))
	for n := range 200 {
		blocks, inodes := g.fs.Free()
		g.quickly(create(fmt.Sprintf("/d/%d", n)))
		grows := 0
		if n%8 == 0 {
			grows = 1
		}
		if n == 64 {
			grows = 2 // the ninth block's number stands in a block of numbers
		}
		g.free(blocks-grows, inodes-1)
	}
	g.same("200 names")
	for n := range 200 {
		blocks, inodes := g.fs.Free()
		g.quickly(unlink(fmt.Sprintf("/d/%d", n*7%200)))
		g.free(blocks, inodes+1)
	}
	g.same("200 names less")
	g.fill("/d", 0, 200)
	g.again(1)
	sound(t, g.fs)
}

// TestAllInodes: 255 beside the root's; one that became free is taken again.
func TestAllInodes(t *testing.T) {
	t.Parallel()
	g := newGround(t, 200, mkdir("/d"), mkdir("/d/e"))
	g.fill("/d", 0, 252)
	g.ok(create("/d/e/f"))
	g.free(200-1-33-1, 0)
	g.refuses(api.ErrFull, create("/x"), mkdir("/x"), create("/d/x"), mkdir("/d/e/x"))
	g.refuses(api.ErrExists, create("/d"))
	g.refuses(api.ErrNone, create("/x/y"))
	g.ok(grow("/d/e/f", 600), rename("/d/e/f", "/x"), rename("/x", "/d/f100"))
	g.free(200-1-33-1-2, 1)
	g.ok(mkdir("/x"))
	g.refuses(api.ErrFull, create("/x/y"))
	g.again(0, 1)
	g.refuses(api.ErrFull, create("/x/y"))
	g.ok(rmdir("/x"), create("/d/e/y"))
	sound(t, g.fs)
}

// TestNoRoomToGrow: a directory that must grow where just so many blocks are free as it needs, and one fewer.
func TestNoRoomToGrow(t *testing.T) {
	t.Parallel()
	for _, c := range [][2]int{{0, 1}, {8, 1}, {56, 1}, {64, 2}, {72, 1}} {
		for _, room := range []int{c[1], c[1] - 1} {
			g := newGround(t, 50, mkdir("/d"), create("/eat"))
			g.fill("/d", 0, c[0])
			g.eat("/eat", room)
			want := api.OK
			if room < c[1] {
				want = api.ErrFull
				g.refuses(want, rename("/eat", "/d/x"), mkdir("/d/x"))
			}
			g.refuses(want, create("/d/x"))
			sound(t, g.fs)
		}
	}
}

func TestAppend(t *testing.T) {
	g := newGround(t, 20, create("/f"), add("/f", "mail"), add("/f", " that"), add("/f", ""), tree.Op{Kind: tree.Append, Path: "/f"}, add("/f", " has come"))
	if b, e := g.fs.Get("/f"); string(b) != "mail that has come" || e != api.OK {
		t.Errorf("P1202: Get: %q, %v", b, e)
	}
	g.free(18, 254)
	g.refuses(api.ErrNone, add("/x", "a"), add("/x", ""))
	g.refuses(api.ErrDir, add("/", "a"), add("/", ""))
	g.again()
}

// TestAppendAtEdges: over a block's end, and where blocks of numbers begin.
func TestAppendAtEdges(t *testing.T) {
	t.Parallel()
	for _, n := range []int{1, 8, 9, 136, 137, 264, 265} {
		size := n * 512
		for _, from := range []int{max(0, size-8192), max(0, size-8191), size - 513, size - 1, size} {
			for _, to := range []int{size - 1, size, size + 1, size + 512, size + 8000} {
				if from < 0 || from > to || to-from > 8192 {
					continue
				}
				g := newGround(t, 1+inode.All(to), create("/f"))
				g.bears("/f", from)
				if room := inode.Blocks(to)*512 - from; room < 8192 {
					g.refuses(api.ErrFull, grow("/f", room+1))
				}
				g.ok(grow("/f", to-from))
				g.free(0, 254)
				sound(t, g.fs)
			}
		}
	}
}

// TestAppendOfMuch: 16 blocks' bytes, and one more; where tree refuses it, too, tree's error is ahead.
func TestAppendOfMuch(t *testing.T) {
	t.Parallel()
	for _, from := range []int{0, 1, 100, 511, 512, 4096, 66000} {
		g := newGround(t, 1+inode.All(from+8193)+20, create("/f"), mkdir("/d"))
		g.bears("/f", from)
		fd := g.opens("/f")
		g.refuses(api.ErrLong, grow("/f", 8193), grow("/f", 8704), grow("/f", 10000))
		g.refuses(api.ErrFull, grow("/f", 8192+512*22), grow("/f", 1<<20))
		g.refuses(api.ErrDir, grow("/d", 8193), grow("/", 8193), grow("/", 1<<24))
		g.refuses(api.ErrNone, grow("/x", 8193), grow("/x/y", 8193))
		g.refuses(api.ErrFile, grow("/f/x", 8193))
		g.refuses(api.ErrName, grow("x", 8193))
		g.refuses(api.ErrLong, grow("/f", inode.Most()-from+1), grow("/f", inode.Most()+1))
		g.refuses(api.ErrFull, grow("/f", inode.Most()-from))
		for _, c := range []struct {
			n    int
			want api.Errno
		}{{8193, api.ErrLong}, {8192 + 512*22, api.ErrFull}, {inode.Most() - from, api.ErrFull}, {inode.Most() - from + 1, api.ErrLong}, {8192, api.OK}} {
			if e := g.appends(fd, letters(c.n)); e != c.want {
				t.Errorf("P1203: Append of %d bytes behind %d: %v; want %v", c.n, from, e, c.want)
			}
		}
		g.ok(grow("/f", 8192))
		sound(t, g.fs)
	}
}

// TestAppendOfMuchWhereRoomEnds: of 8193 bytes, with just the room for them and without.
func TestAppendOfMuchWhereRoomEnds(t *testing.T) {
	for _, from := range []int{0, 1, 511, 512, 4000} {
		need := inode.All(from+8193) - inode.All(from)
		for room := need - 2; room <= need+1; room++ {
			g := newGround(t, 80, create("/f"), create("/eat"))
			g.bears("/f", from)
			g.eat("/eat", room)
			want := api.ErrLong
			if room < need {
				want = api.ErrFull
			}
			g.refuses(want, grow("/f", 8193))
			if e := g.appends(g.opens("/f"), letters(8193)); e != want {
				t.Errorf("P1203: Append of 8193 bytes, with room for %d of %d blocks: %v", room, need, e)
			}
		}
	}
}

func TestCut(t *testing.T) {
	g := newGround(t, 20, create("/f"), mkdir("/d"), add("/f", "mail that has come"), cut("/f", 18), cut("/f", 9), add("/f", " goes"), cut("/f", 4))
	if b, e := g.fs.Get("/f"); string(b) != "mail" || e != api.OK {
		t.Errorf("P1202: Get: %q, %v", b, e)
	}
	g.refuses(api.ErrArg, cut("/f", -1), cut("/f", 5), cut("/f", math.MaxInt), cut("/f", math.MinInt))
	g.refuses(api.ErrDir, cut("/", 0), cut("/d", -1), cut("/d", 9))
	g.refuses(api.ErrNone, cut("/x", 0), cut("/x", -1), cut("/d/x", 9))
	g.ok(cut("/f", 0), cut("/f", 0))
	g.free(19, 253)
	g.refuses(api.ErrArg, cut("/f", 1))
	g.again()
}

// TestCutAtEdges: what a Cut gives back is free at once, and bytes behind it are 0 if they come back.
func TestCutAtEdges(t *testing.T) {
	t.Parallel()
	sizes := []int{0, 1, 511, 512, 513, 8*512 - 1, 8 * 512, 8*512 + 1, 136*512 - 1, 136 * 512, 136*512 + 1, 264 * 512, 264*512 + 1, 300*512 + 7}
	g := newGround(t, 1+inode.All(300*512+7), create("/f"))
	for i, from := range sizes {
		for _, to := range sizes[:i+1] {
			g.quickly(cut("/f", 0))
			for left := from; left > 0; left -= 8192 {
				g.quickly(grow("/f", min(left, 8192)))
			}
			g.ok(cut("/f", to))
			g.free(inode.All(300*512+7)-inode.All(to), 254)
		}
		sound(t, g.fs)
	}
	g.again(1, 1)
}

func TestUnlink(t *testing.T) {
	g := newGround(t, 40, mkdir("/d"), create("/f"), grow("/f", 5000), create("/d/g"), grow("/d/g", 1))
	g.free(40-1-11-1-1, 252)
	g.ok(unlink("/f"))
	g.free(40-1-1-1, 253)
	g.ok(unlink("/d/g"))
	g.free(40-1-1, 254)
	g.refuses(api.ErrNone, unlink("/f"), unlink("/d/g"), unlink("/d/x"))
	g.refuses(api.ErrDir, unlink("/"), unlink("/d"))
	g.ok(create("/f"))
	if b, e := g.fs.Get("/f"); len(b) != 0 || e != api.OK {
		t.Errorf("P1202: a new file has %q, %v", b, e)
	}
	g.again()
}

func TestRmdir(t *testing.T) {
	g := newGround(t, 40, mkdir("/d"), mkdir("/d/e"), create("/f"))
	g.refuses(api.ErrBusy, rmdir("/"), rmdir("/d"))
	g.refuses(api.ErrFile, rmdir("/f"))
	g.refuses(api.ErrNone, rmdir("/x"), rmdir("/d/x"))
	g.ok(rmdir("/d/e"), rmdir("/d"))
	g.free(39, 254)
	g.ok(unlink("/f"))
	g.refuses(api.ErrBusy, rmdir("/"))
	g.free(39, 255)
	g.has("")
	g.ok(mkdir("/d"))
	g.fill("/d", 0, 70)
	for i := range 70 {
		g.quickly(unlink(fmt.Sprintf("/d/f%d", i)))
	}
	g.free(39-10, 254)
	g.ok(rmdir("/d"))
	g.free(39, 255)
	sound(t, g.fs)
	g.again()
}

func TestRename(t *testing.T) {
	g := newGround(t, 40, mkdir("/d"), create("/d/f"), add("/d/f", "mail"), mkdir("/d/e"), create("/d/e/x"), mkdir("/o"), create("/g"), grow("/g", 700))
	g.ok(rename("/d/f", "/d/g"), rename("/d/g", "/d/g"), rename("/d", "/d"), rename("/d/g", "/o/g"), rename("/d/e", "/o/e"), rename("/o", "/d/o"))
	g.has("/d/ /d/o/ /d/o/e/ /d/o/e/x /d/o/g /g")
	blocks, inodes := g.fs.Free()
	g.ok(rename("/d/o/g", "/g"))
	g.free(blocks+2, inodes+1)
	if b, e := g.fs.Get("/g"); string(b) != "mail" || e != api.OK {
		t.Errorf("P1202: %q, %v", b, e)
	}
	g.ok(mkdir("/n"), rename("/d/o", "/n"), rename("/n/e/x", "/n/x"), rename("/n/x", "/g"), rename("/n/e", "/d"))
	g.has("/d/ /g /n/")
	g.refuses(api.ErrBusy, rename("/", "/x"), rename("/d", "/"), rename("/d", "/d/x"), rename("/d", "/d/g"))
	g.refuses(api.ErrNone, rename("/x", "/g"), rename("/x", "/"), rename("/g", "/x/y"), rename("/x/y", "/"))
	g.refuses(api.ErrFile, rename("/g", "/g/x"), rename("/d", "/g/x"), rename("/d", "/g"), rename("/g/x", "/d"))
	g.refuses(api.ErrDir, rename("/g", "/d"))
	g.ok(create("/d/x"))
	g.refuses(api.ErrBusy, rename("/n", "/d"))
	g.ok(unlink("/d/x"), rename("/n", "/d"))
	sound(t, g.fs)
	g.again(0, 1, 1)
}

// TestRenameOver: what goes gives back its blocks and its inode in the same act, where nothing is left, too.
func TestRenameOver(t *testing.T) {
	g := newGround(t, 20, mkdir("/d"), create("/f"), grow("/f", 5000), create("/d/g"), grow("/d/g", 600))
	g.eat("/f", 0)
	g.refuses(api.ErrFull, grow("/f", 512), grow("/d/g", 600))
	g.ok(rename("/d/g", "/f"))
	g.free(16, 253)
	g.ok(create("/d/h"), rename("/f", "/d/h"), rename("/d/h", "/f"), mkdir("/e"), mkdir("/d/e"), create("/e/x"), rename("/e", "/d/e"), rename("/d/e/x", "/f"))
	sound(t, g.fs)
}

// TestRenameBetweenGreatDirectories: 254 names each had once; a transaction has no room for all their slots.
func TestRenameBetweenGreatDirectories(t *testing.T) {
	t.Parallel()
	g := newGround(t, 100, mkdir("/a"), mkdir("/b"))
	g.fill("/a", 0, 253)
	for i := range 253 {
		g.quickly(rename(fmt.Sprintf("/a/f%d", i), fmt.Sprintf("/b/g%d", i)))
	}
	g.same("253 Renames")
	g.ok(rename("/b/g0", "/a/g0"), rename("/b/g250", "/a/g250"), rename("/b/g251", "/a/g250"), rename("/b/g3", "/b/g4"), rename("/b/g252", "/b/x"))
	sound(t, g.fs)
	g.again()
}

// TestFullDirectories: a Rename within one needs no slot; into one it does, Path's slot is free first.
func TestFullDirectories(t *testing.T) {
	g := newGround(t, 3, mkdir("/d"), create("/f"))
	g.fill("/d", 0, 8)
	g.fill("", 0, 6)
	g.bears("/f", 512)
	g.free(0, 255-16)
	g.refuses(api.ErrFull, create("/x"), create("/d/x"), rename("/f", "/d/x"), rename("/d/f1", "/x"))
	g.ok(rename("/f", "/x"), rename("/d/f0", "/d/x"), rename("/d/x", "/x"))
	g.free(1, 255-15)
	g.ok(rename("/x", "/d/f0"), create("/y"), grow("/y", 1))
	g.refuses(api.ErrFull, create("/z"))
	sound(t, g.fs)
}

// laid are the names of a directory as they stand in its slots, and behind each its inode.
func (g *ground) laid(s string) string {
	g.Helper()
	out := ""
	e := g.fs.look(func(a *act) api.Errno {
		at, e := a.find(s)
		if e != api.OK {
			return e
		}
		slots, e := a.slots(at.inode)
		for _, slot := range slots {
			out += fmt.Sprint(slot.Name, slot.Inode, " ")
		}
		return e
	})
	if e != api.OK {
		g.Fatal(e)
	}
	return out
}

// TestSlotsPlaces: chapters 9 and 11 say which slot a name has, and P9 which inode is taken.
func TestSlotsPlaces(t *testing.T) {
	g := newGround(t, 60, create("/a"), create("/b"), mkdir("/c"), create("/d"))
	holds := func(s, want string) {
		g.Helper()
		if got := g.laid(s); got != want {
			g.Errorf("P1202: the slots of %s: %s; want %s", s, got, want)
		}
	}
	holds("/", "a1 b2 c3 d4 0 0 0 0 ")
	g.ok(unlink("/a"), rename("/d", "/e"))
	holds("/", "0 b2 c3 e4 0 0 0 0 ")
	g.ok(rename("/b", "/x"))
	holds("/", "0 x2 c3 e4 0 0 0 0 ")
	g.ok(create("/n"))
	holds("/", "n1 x2 c3 e4 0 0 0 0 ")
	g.ok(rename("/x", "/e"))
	holds("/", "n1 0 c3 e2 0 0 0 0 ")
	g.ok(mkdir("/y"), create("/y/1"), create("/y/2"), rename("/n", "/y/1"), rename("/y/2", "/y/3"))
	holds("/", "0 y4 c3 e2 0 0 0 0 ")
	holds("/y", "11 36 0 0 0 0 0 0 ")
	g.ok(rename("/y/3", "/n"))
	g.has("/c/ /e /n /y/ /y/1")
}

// TestDeep: to the most names and bytes that a path may have, and past it.
func TestDeep(t *testing.T) {
	g := newGround(t, 40)
	s := ""
	for range 7 {
		s += "/d"
		g.ok(mkdir(s))
	}
	g.ok(create(s+"/f"), add(s+"/f", "deep"), mkdir(s+"/e"))
	for _, long := range []string{s + "/f/x", s + "/e/x", s + "/x/y", "/" + many(256, "x"), many(129, "/x")} {
		g.refuses(api.ErrLong, create(long), mkdir(long), add(long, "x"), cut(long, 0), unlink(long), rmdir(long), rename(long, "/x"), rename("/d", long))
		g.asked(long)
	}
	for _, wrong := range []string{"", "x", "//", "/x/", "/d/", "/.", "/..", "/a b", "/" + many(49, "n"), "/\x00", "/é"} {
		g.refuses(api.ErrName, create(wrong), mkdir(wrong), add(wrong, "x"), cut(wrong, 0), unlink(wrong), rmdir(wrong), rename(wrong, "/x"), rename("/d", wrong))
		g.asked(wrong)
	}
	long := ""
	for range 5 {
		long += "/" + many(48, "l")
		g.ok(mkdir(long))
	}
	g.ok(create(long+"/"+many(10, "f")), add(long+"/"+many(10, "f"), "mail"))
	g.refuses(api.ErrLong, create(long+"/"+many(11, "f")))
	g.again()
}

func TestNoKind(t *testing.T) {
	g := newGround(t, 10, create("/f"))
	for _, kind := range []int{0, -1, 8, 9, 99, math.MaxInt, math.MinInt, 1<<32 + 1} {
		for _, s := range []string{"/", "/f", "/x", "", "//", many(300, "x")} {
			g.refuses(api.ErrArg, tree.Op{Kind: kind, Path: s, To: s, Data: make([]byte, 9000), N: -1})
		}
	}
}

// TestUseless: what a kind has no use for is not looked at.
func TestUseless(t *testing.T) {
	g := newGround(t, 10)
	long := make([]byte, 20000)
	for _, o := range []tree.Op{{Kind: tree.Create, Path: "/f", To: "wrong", N: -1}, {Kind: tree.Mkdir, Path: "/d", To: "//", N: 99},
		{Kind: tree.Cut, Path: "/f", To: "x", N: 0}, {Kind: tree.Rename, Path: "/f", To: "/g", N: -1},
		{Kind: tree.Unlink, Path: "/g", To: many(300, "x"), N: -1}, {Kind: tree.Rmdir, Path: "/d", To: "", N: 5}} {
		if e := g.tree.Do(o); e != api.OK {
			t.Fatal(e)
		}
		o.Data = long
		if e := g.fs.Do(o); e != api.OK {
			t.Errorf("P1202: %s: %v", named(o), e)
		}
		g.same(named(o))
	}
}

// TestAsking: Stat, Get and List, over a way that is not there, or has a file in it.
func TestAsking(t *testing.T) {
	g := newGround(t, 40, some...)
	for _, s := range []string{"/", "/a", "/a/f", "/a/b", "/a/b/g", "/e", "/x", "/x/y", "/a/f/x", "/a/x", "/e/x", "/k/x/y", "", "a", "//", "/a/", many(9, "/a"), many(300, "x")} {
		g.asked(s)
	}
	info, e := g.fs.Stat("/a")
	if info != (tree.Info{Dir: true, Kids: 2}) || e != api.OK {
		t.Errorf("P1202: Stat: %+v, %v", info, e)
	}
	if info, e := g.fs.Stat("/a/f"); info != (tree.Info{Size: 600}) || e != api.OK {
		t.Errorf("P1202: Stat: %+v, %v", info, e)
	}
	g.same("asking")
}

// TestAllBytes: a file may have any of them.
func TestAllBytes(t *testing.T) {
	var data []byte
	for i := range 256 {
		data = append(data, byte(i))
	}
	o := tree.Op{Kind: tree.Append, Path: "/f", Data: data}
	g := newGround(t, 5, create("/f"), o, o, o)
	if b, _ := g.fs.Get("/f"); !bytes.Equal(b, bytes.Repeat(data, 3)) {
		t.Errorf("P1202: Get: %x", b)
	}
	g.again()
}

// TestAllPairs does each act on each path, and Rename of each path to each, on disks
// with room and without, with files that are open, each time from the same state on.
func TestAllPairs(t *testing.T) {
	t.Parallel()
	start := []tree.Op{mkdir("/a"), mkdir("/a/a"), create("/a/b"), mkdir("/b"), create("/b/a"), mkdir("/b/b"), create("/b/b/a"), create("/c"), add("/c", "mail"), grow("/a/b", 600), mkdir("/ab")}
	paths := []string{"/", "/a", "/b", "/c", "/x", "/ab", "/a/a", "/a/b", "/a/c", "/b/a", "/b/b", "/c/a", "/x/a", "/a/a/a", "/b/b/a", "/b/b/c", "/ab/a", "x", "/a/", "/x/a/a/a/a/a/a/a/a"}
	for _, room := range []int{50, 7, 8} {
		from := newGround(t, room, start...)
		from.sync()
		for _, opens := range [][]string{nil, {"/c", "/b/b/a", "/c"}} {
			try := func(o tree.Op) {
				d := from.disk.Twin()
				g := &ground{t, d, mounted(t, d), from.tree.Twin(), map[int]string{}}
				for _, s := range opens {
					g.opens(s)
				}
				g.quick(o)
				g.does(o)
			}
			for _, s := range paths {
				for kind := -1; kind < 9; kind++ {
					for _, n := range []int{0, 4, 600} {
						try(tree.Op{Kind: kind, Path: s, Data: []byte(letters(n)), N: n})
					}
				}
				for _, to := range paths {
					try(rename(s, to))
				}
			}
		}
	}
}
