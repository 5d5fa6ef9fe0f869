package fs

import (
	"fmt"
	"math"
	"testing"

	"mailbag/api"
	"mailbag/tree"
)

func (g *ground) reads(fd, off, n int, want string, err api.Errno) {
	g.Helper()
	b, e := g.fs.Read(fd, off, n)
	if string(b) != want || e != err || e != api.OK && b != nil {
		g.Errorf("P1203: Read(%d, %d, %d): %.40q of %d, %v; want %.40q of %d, %v", fd, off, n, b, len(b), e, want, len(want), err)
	}
}

// opensNot is an Open that is refused: the number beside the error is 0.
func (g *ground) opensNot(s string, want api.Errno) {
	g.Helper()
	if fd, e := g.fs.Open(s); fd != 0 || e != want {
		g.Errorf("P1203: Open(%.60q): %d, %v; want %v", s, fd, e, want)
	}
}

func TestOpen(t *testing.T) {
	g := newGround(t, 40, some...)
	for _, c := range []struct {
		s string
		e api.Errno
	}{{"", api.ErrName}, {"k", api.ErrName}, {"/k/", api.ErrName}, {many(9, "/x"), api.ErrLong}, {many(300, "x"), api.ErrLong},
		{"/x", api.ErrNone}, {"/x/y", api.ErrNone}, {"/a/x", api.ErrNone}, {"/k/x", api.ErrFile}, {"/a/f/x/y", api.ErrFile},
		{"/", api.ErrDir}, {"/a", api.ErrDir}, {"/a/b", api.ErrDir}, {"/e", api.ErrDir}} {
		g.opensNot(c.s, c.e)
	}
	g.same("Opens that were refused")
	for i, s := range []string{"/k", "/a/f", "/k", "/a/b/g"} {
		if fd := g.opens(s); fd != i {
			t.Errorf("P1203: Open: %d; want %d", fd, i)
		}
	}
	g.opensNot("/a", api.ErrDir)
	g.same("Open")
}

// TestLeastNumber: a number that was closed is open again with the next Open.
func TestLeastNumber(t *testing.T) {
	g := newGround(t, 40, some...)
	for range 5 {
		g.opens("/k")
	}
	for _, closed := range [][]int{{3}, {0}, {4}, {2, 1}, {1, 3, 4}, {4, 0}, {0, 1, 2, 3, 4}} {
		for _, fd := range closed {
			g.closes(fd)
		}
		g.same("Close")
		for range closed {
			g.opens("/a/f")
		}
		g.same("Open")
	}
}

// TestMostOpen: as many as may be, and one more; what is refused for another reason is told ahead of that.
func TestMostOpen(t *testing.T) {
	g := newGround(t, 40, some...)
	for i := range api.MaxOpen {
		if fd := g.opens([]string{"/k", "/a/f", "/a/b/g"}[i%3]); fd != i {
			t.Fatalf("P1203: Open: %d; want %d", fd, i)
		}
	}
	for range 2 {
		g.opensNot("/k", api.ErrFull)
		g.opensNot("/a/b/y", api.ErrFull)
		g.opensNot("/a", api.ErrDir)
		g.opensNot("/", api.ErrDir)
		g.opensNot("/x", api.ErrNone)
		g.opensNot("/k/x", api.ErrFile)
		g.opensNot("k", api.ErrName)
		g.opensNot(many(9, "/x"), api.ErrLong)
	}
	g.same("an Open too many")
	for _, fd := range []int{31, 17, 0} {
		g.closes(fd)
		g.opens("/a/b/y")
		g.opensNot("/k", api.ErrFull)
	}
	g.same("Open")
}

func TestRead(t *testing.T) {
	size := 9*512 + 100
	g := newGround(t, 40, create("/f"), grow("/f", size), create("/e"))
	text := letters(size)
	fd, empty := g.opens("/f"), g.opens("/e")
	for _, off := range []int{0, 1, 99, 511, 512, 513, 8*512 - 1, 8 * 512, size - 1, size, size + 1, size + 512, 1 << 40, math.MaxInt} {
		for _, n := range []int{0, 1, 2, 512, 513, 4000, size - 1, size, size + 1, 1 << 40, math.MaxInt} {
			from := min(off, size)
			g.reads(fd, off, n, text[from:from+min(n, size-from)], api.OK)
			g.reads(empty, off, n, "", api.OK)
		}
		for _, n := range []int{-1, -512, math.MinInt} {
			g.reads(fd, off, n, "", api.ErrArg)
			g.reads(empty, off, n, "", api.ErrArg)
		}
	}
	for _, off := range []int{-1, -512, math.MinInt} {
		for _, n := range []int{-1, 0, 1, math.MaxInt} {
			g.reads(fd, off, n, "", api.ErrArg)
		}
	}
	g.same("Reads")
}

// TestNotOpen: numbers below 0, too great, never opened, closed.
func TestNotOpen(t *testing.T) {
	g := newGround(t, 40, some...)
	g.opens("/k")
	g.opens("/a/f")
	g.opens("/k")
	g.closes(1)
	for _, fd := range []int{-1, -32, math.MinInt, 1, 3, 31, 32, 33, 1 << 32, math.MaxInt} {
		g.reads(fd, 0, 1, "", api.ErrBad)
		g.reads(fd, -1, -1, "", api.ErrBad)
		for _, n := range []int{0, 1, 8193, 1 << 20} {
			if e := g.fs.Append(fd, make([]byte, n)); e != api.ErrBad {
				t.Errorf("P1203: Append to %d: %v", fd, e)
			}
		}
		if e := g.fs.Fsync(fd); e != api.ErrBad {
			t.Errorf("P1203: Fsync of %d: %v", fd, e)
		}
		if e := g.fs.Close(fd); e != api.ErrBad {
			t.Errorf("P1203: Close of %d: %v", fd, e)
		}
	}
	g.same("calls on what is not open")
}

func TestAppendByNumber(t *testing.T) {
	g := newGround(t, 14, create("/f"), mkdir("/d"))
	one, two := g.opens("/f"), g.opens("/f")
	for _, text := range []string{"hello", "", " you", letters(500), letters(4000)} {
		g.appends(one, text)
		g.appends(two, text)
	}
	g.ok(cut("/f", 100), add("/f", "x"))
	if e := g.appends(one, letters(6000)); e != api.OK {
		t.Errorf("P1203: Append: %v", e)
	}
	if e := g.appends(two, letters(512)); e != api.ErrFull {
		t.Errorf("P1203: Append where no room is left: %v", e)
	}
	g.ok(cut("/f", 0))
	g.closes(one)
	g.appends(two, "again")
	g.again()
}

// TestRenamedWhileOpen: the file, and what it stands in, also so deep that it has no path.
func TestRenamedWhileOpen(t *testing.T) {
	g := newGround(t, 60, mkdir("/d"), mkdir("/d/e"), create("/d/e/f"), create("/g"), add("/g", "other"))
	fd := g.opens("/d/e/f")
	g.appends(fd, "hello")
	for _, o := range []tree.Op{rename("/d/e/f", "/d/f"), rename("/d/f", "/d/e/g"), rename("/d/e", "/e"), rename("/e", "/d/x"), rename("/d", "/y")} {
		g.ok(o)
		g.appends(fd, " you")
		g.opens(g.open[fd])
	}
	g.ok(create("/f"), create("/d"), rename("/y/x/g", "/g"))
	g.appends(fd, ".")
	g.reads(fd, 1, 6, "ello y", api.OK)
	up := ""
	for range 7 {
		up += "/u"
		g.ok(mkdir(up))
	}
	g.ok(rename("/g", "/y/x/g"), rename("/y", up+"/y"))
	if e := g.fs.Append(fd, []byte("deep")); e != api.OK {
		t.Errorf("P1203: Append to what was renamed too deep: %v", e)
	}
	g.reads(fd, 0, 1<<20, "hello"+many(5, " you")+".deep", api.OK)
	if e := g.fs.Fsync(fd); e != api.OK {
		t.Errorf("P1203: Fsync: %v", e)
	}
	if e := g.fs.Do(rename(up+"/y", "/y")); e != api.OK {
		t.Fatal(e)
	}
	if b, e := g.fs.Get("/y/x/g"); string(b) != "hello"+many(5, " you")+".deep" || e != api.OK {
		t.Errorf("P1203: Get: %q, %v", b, e)
	}
}

// TestBusy: what is open is not taken away, as long as it is open once; its own errors are ahead of that.
func TestBusy(t *testing.T) {
	g := newGround(t, 60, mkdir("/d"), mkdir("/d/e"), create("/f"), add("/f", "x"), create("/g"), create("/d/g"))
	one, two := g.opens("/f"), g.opens("/f")
	busy := func() {
		g.Helper()
		g.refuses(api.ErrBusy, unlink("/f"), rename("/g", "/f"), rename("/d/g", "/f"))
		g.refuses(api.ErrFile, rename("/d", "/f"), rename("/d/e", "/f"), rmdir("/f"), unlink("/f/x"), rename("/g", "/f/x"))
		g.refuses(api.ErrNone, rename("/x", "/f"), rename("/d/x", "/f"))
		g.refuses(api.ErrDir, rename("/f", "/d"))
		g.ok(rename("/f", "/f"), cut("/f", 0), add("/f", "x"))
	}
	busy()
	g.closes(two)
	busy()
	g.ok(rename("/f", "/d/f"))
	g.refuses(api.ErrBusy, unlink("/d/f"), rename("/g", "/d/f"), rename("/d/g", "/d/f"), rmdir("/d"))
	g.ok(rename("/d/f", "/f"), rename("/f", "/g"), rename("/g", "/d/g"), rename("/d/g", "/f"))
	busyNot := []tree.Op{create("/g"), create("/d/g")}
	g.ok(busyNot...)
	busy()
	g.closes(one)
	g.ok(rename("/g", "/f"))
	fd := g.opens("/d/g")
	g.refuses(api.ErrBusy, rename("/f", "/d/g"))
	g.closes(fd)
	g.ok(unlink("/f"), unlink("/d/g"))
	sound(t, g.fs)
}

// TestBusyByEachNumber: by the last one, too, and by the first one.
func TestBusyByEachNumber(t *testing.T) {
	g := newGround(t, 60)
	g.fill("", 0, api.MaxOpen+1)
	for i := range api.MaxOpen {
		g.opens(fmt.Sprintf("/f%d", i))
	}
	for i := range api.MaxOpen {
		s := fmt.Sprintf("/f%d", i)
		g.refuses(api.ErrBusy, unlink(s), rename("/f32", s))
	}
	g.ok(unlink("/f32"))
}

// TestBusyInAFullTree: what tree itself refuses is told ahead.
func TestBusyInAFullTree(t *testing.T) {
	g := newGround(t, 4, mkdir("/d"), create("/f"), create("/eat"), grow("/eat", 512))
	g.fill("/d", 0, 8)
	g.eat("/eat", 0)
	g.opens("/f")
	g.opens("/d/f1")
	g.refuses(api.ErrFull, rename("/f", "/d/x"), add("/f", "x"))
	g.refuses(api.ErrBusy, rename("/f", "/d/f1"), rename("/d/f1", "/f"), unlink("/d/f1"))
	g.ok(rename("/f", "/d/f2"), rename("/d/f1", "/f"))
}

// TestNewFileOfAnOldInode: the numbers that were closed are nothing to a file that comes later.
func TestNewFileOfAnOldInode(t *testing.T) {
	g := newGround(t, 60)
	for i := range 40 {
		s := fmt.Sprintf("/f%d", i%3)
		g.ok(create(s))
		fd := g.opens(s)
		g.appends(fd, fmt.Sprint("text ", i))
		g.refuses(api.ErrBusy, unlink(s))
		g.closes(fd)
		g.ok(unlink(s))
	}
}

// TestMountOpensNothing: what was open behind the one is not behind the other.
func TestMountOpensNothing(t *testing.T) {
	g := newGround(t, 60, some...)
	for range 3 {
		g.opens("/k")
	}
	g.sync()
	g.fs, g.open = mounted(t, g.disk), map[int]string{}
	g.same("Mount")
	g.ok(unlink("/k"))
	if fd := g.opens("/a/f"); fd != 0 {
		t.Errorf("P1203: Open behind Mount: %d", fd)
	}
}

// TestFsync: all that was done lasts, not the file's own bytes alone.
func TestFsync(t *testing.T) {
	for _, call := range []string{"Fsync", "Sync"} {
		g := newGround(t, 60, some...)
		fd := g.opens("/k")
		g.appends(fd, "x")
		g.ok(create("/n"), rename("/a/f", "/n"))
		e := api.OK
		if call == "Sync" {
			e = g.fs.Sync()
		} else {
			e = g.fs.Fsync(fd)
		}
		if e != api.OK {
			t.Errorf("P1203: %s: %v", call, e)
		}
		g.disk.Cut()
		g.disk.On()
		g.fs, g.open = mounted(t, g.disk), map[int]string{}
		g.same(call)
	}
}
