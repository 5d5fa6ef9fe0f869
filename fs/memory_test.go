package fs

import (
	"bytes"
	"fmt"
	"slices"
	"testing"

	"mailbag/api"
	"mailbag/tree"
)

// spoil writes over all of a list, its spare room too.
func spoil[T any](list []T, with T) {
	list = list[:cap(list)]
	for i := range list {
		list[i] = with
	}
}

// TestDataStays: P2: neither the bytes nor their spare room are changed, by no act.
func TestDataStays(t *testing.T) {
	for _, size := range []int{0, 1, 511, 512, 5000, 8192, 8193} {
		room := append([]byte(letters(size)), bytes.Repeat([]byte{0x5A}, 3000)...)
		was := bytes.Clone(room)
		g := newGround(t, 60, create("/f"), mkdir("/d"))
		fd := g.opens("/f")
		for kind := range 9 {
			for _, s := range []string{"/f", "/f", "/d", "/x", "/", "x"} {
				g.fs.Do(tree.Op{Kind: kind, Path: s, To: s, Data: room[:size]})
			}
		}
		g.fs.Append(fd, room[:size])
		g.fs.Append(9, room[:size])
		g.fs.Sync()
		if !bytes.Equal(room, was) {
			t.Errorf("P2: %d bytes that were handed in were changed, or what is behind them", size)
		}
	}
}

// TestDataIsNotKept: P2: what is done to the bytes later is not seen, ahead of a Sync and behind it.
func TestDataIsNotKept(t *testing.T) {
	for _, size := range []int{1, 512, 5000, 8192} {
		for _, by := range []string{"Do", "Append"} {
			g := newGround(t, 60, create("/f"))
			fd := g.opens("/f")
			data := append([]byte(letters(size)), make([]byte, 1000)...)[:size]
			e := api.OK
			if by == "Do" {
				e = g.fs.Do(tree.Op{Kind: tree.Append, Path: "/f", Data: data})
			} else {
				e = g.fs.Append(fd, data)
			}
			if e != api.OK {
				t.Fatal(e)
			}
			g.tree.Do(grow("/f", size))
			spoil(data, 0xEE)
			g.same("a change of what was handed in")
			g.ok(add("/f", "more"))
			for _, b := range data[:cap(data)] {
				if b != 0xEE {
					t.Fatal("P2: an Append is laid into bytes that were handed in")
				}
			}
			g.again()
		}
	}
}

// TestAnswersAreNew: P2: what is done to an answer, its spare room too, is not seen, and no two share any.
func TestAnswersAreNew(t *testing.T) {
	for _, size := range []int{0, 1, 5, 512, 513, 5000} {
		g := newGround(t, 60, mkdir("/d"), create("/d/a"), create("/d/b"), create("/f"), grow("/f", size))
		fd := g.opens("/f")
		for _, synced := range []bool{false, true} {
			if synced {
				g.sync()
			}
			one, _ := g.fs.Get("/f")
			two, _ := g.fs.Read(fd, 0, 1<<20)
			three, _ := g.fs.Get("/f")
			four, _ := g.fs.Read(fd, 0, size)
			for _, b := range [][]byte{one, two, three, four} {
				if string(b) != letters(size) {
					t.Errorf("P2: an answer changes with another one: %.40q", b)
				}
				spoil(b, 0xEE)
			}
			names, _ := g.fs.List("/d")
			other, _ := g.fs.List("/d")
			spoil(names, "spoilt")
			if !slices.Equal(other, []string{"a", "b"}) {
				t.Errorf("P2: two answers of List share memory: %q", other)
			}
			g.same("a change of answers")
		}
		was, _ := g.fs.Get("/f")
		names, _ := g.fs.List("/d")
		g.ok(add("/f", "xyz"), create("/d/c"), cut("/f", 1), unlink("/d/a"))
		g.sync()
		if string(was) != letters(size) || !slices.Equal(names, []string{"a", "b"}) {
			t.Error("P2: an answer changes with what it was asked of")
		}
	}
}

// TestGivenBack: an answer may be handed in.
func TestGivenBack(t *testing.T) {
	g := newGround(t, 60, create("/f"), add("/f", "mail"))
	fd := g.opens("/f")
	for range 4 {
		b, _ := g.fs.Get("/f")
		c, _ := g.fs.Read(fd, 0, 2)
		g.ok(tree.Op{Kind: tree.Append, Path: "/f", Data: b}, tree.Op{Kind: tree.Append, Path: "/f", Data: c})
		spoil(b, 0xEE)
		spoil(c, 0xEE)
		g.same("a change of what was answered, and handed in")
	}
}

// TestTreesBytesAreItsOwn: a Tree's files share no bytes with answers, or with the file system.
func TestTreesBytesAreItsOwn(t *testing.T) {
	g := newGround(t, 60, create("/f"), grow("/f", 700))
	x := g.fs.Tree()
	b, _ := x.Read("/f")
	spoil(b, 0xEE)
	x.Do(add("/f", "x"))
	x.Do(cut("/f", 3))
	g.same("a change of a Tree")
	y := g.fs.Tree()
	g.ok(cut("/f", 0), add("/f", "other"))
	if b, _ := y.Read("/f"); string(b) != letters(700) {
		t.Error("P7: a Tree's bytes change with the file system")
	}
}

// TestSameCallsAnswerTheSame: P3: the disk's blocks, too, are the same ones.
func TestSameCallsAnswerTheSame(t *testing.T) {
	var first []byte
	var told string
	for range 4 {
		g := newGround(t, 80, some...)
		g.fill("/e", 0, 30)
		g.opens("/k")
		g.appends(0, letters(3000))
		g.sync()
		g.ok(unlink("/e/f7"), rename("/e/f9", "/e/f8"), create("/e/n"))
		names, _ := g.fs.List("/e")
		blocks, inodes := g.fs.Free()
		now := fmt.Sprint(names, blocks, inodes, walked(g.fs.Tree()))
		g.disk.Arm(9, 1, 0, 1)
		g.fs.Sync()
		if first == nil {
			first, told = g.disk.Image(), now
		}
		if !bytes.Equal(g.disk.Image(), first) || now != told {
			t.Fatal("P3: the same calls left another disk, or answered something else")
		}
	}
}

// TestAskingWritesNothing: only what changes something writes to the disk, and only what lasts.
func TestAskingWritesNothing(t *testing.T) {
	g := newGround(t, 80, some...)
	g.sync()
	fd := g.opens("/k")
	was := g.disk.Writes()
	g.same("asking")
	g.fs.Open("/x/y")
	g.closes(g.opens("/a/f"))
	g.reads(fd, 3, 4, letters(7)[3:], api.OK)
	if g.disk.Writes() != was || g.disk.Waiting() != 0 {
		t.Errorf("P5: asking wrote %d blocks", g.disk.Writes()-was)
	}
	g.sync()
	g.refuses(api.ErrExists, create("/k"))
	g.refuses(api.ErrBusy, unlink("/k"))
	g.sync()
	if g.disk.Writes() != was {
		t.Errorf("P5: acts that were refused wrote %d blocks", g.disk.Writes()-was)
	}
}

// TestTwoDisks: two file systems have nothing in common.
func TestTwoDisks(t *testing.T) {
	one, two := newGround(t, 60, some...), newGround(t, 60)
	one.opens("/k")
	two.same("another file system")
	two.ok(create("/k"), grow("/k", 99))
	two.opens("/k")
	one.same("another file system")
	one.closes(0)
	two.refuses(api.ErrBusy, unlink("/k"))
	one.ok(unlink("/k"))
	two.same("another file system")
}
