package tree

import (
	"bytes"
	"fmt"
	"slices"
	"testing"

	"mailbag/api"
)

// spoil writes over all of a list, its spare room too.
func spoil[T any](list []T, with T) {
	list = list[:cap(list)]
	for i := range list {
		list[i] = with
	}
}

// TestDataStays: P2: neither the bytes nor their spare room are changed, by no act.
func TestDataStays(t *testing.T) {
	for _, size := range []int{0, 1, 511, 512, 5000} {
		room := append([]byte(letters(size)), bytes.Repeat([]byte{0x5A}, 3000)...)
		was := bytes.Clone(room)
		g := newGround(t, 40, 9, create("/f"), mkdir("/d"))
		for kind := range 9 {
			for _, s := range []string{"/f", "/f", "/d", "/x", "/", "x"} {
				g.does(Op{Kind: kind, Path: s, To: s, Data: room[:size]})
				if !bytes.Equal(room, was) {
					t.Fatalf("P2: act %d changed its bytes, or what is behind them", kind)
				}
			}
		}
	}
}

// TestDataIsNotKept: P2: what is done to the bytes later is not seen.
func TestDataIsNotKept(t *testing.T) {
	for _, size := range []int{1, 5, 512, 5000} {
		g := newGround(t, 60, 9, create("/f"))
		data := append([]byte(letters(size)), make([]byte, 1000)...)[:size]
		g.ok(Op{Kind: Append, Path: "/f", Data: data})
		spoil(data, 0xEE)
		reads(t, g.tree, "/f", letters(size), api.OK)
		g.ok(add("/f", "mail"))
		for _, b := range data[:cap(data)] {
			if b != 0xEE {
				t.Fatal("P2: an Append is laid into bytes that were handed in")
			}
		}
		g.ok(cut("/f", 1), Op{Kind: Append, Path: "/f", Data: data})
		spoil(data, 0xDD)
		g.same("a change of what was handed in")
	}
}

// TestReadIsNew: P2: what is done to an answer, its spare room too, is not seen.
func TestReadIsNew(t *testing.T) {
	g := newGround(t, 60, 9, create("/f"), create("/e"))
	for _, more := range []int{0, 1, 3, 508, 512, 5000} {
		g.ok(grow("/f", more))
		one, _ := g.tree.Read("/f")
		two, _ := g.tree.Read("/f")
		was := bytes.Clone(two)
		spoil(one, 0xEE)
		if !bytes.Equal(two, was) {
			t.Error("P2: two answers of Read share memory")
		}
		g.same("a change of an answer")
		g.ok(add("/f", "x"))
		if !bytes.Equal(two, was) {
			t.Error("P2: an answer of Read changes with the file")
		}
		spoil(two, 0xDD)
		g.same("a change of an answer, behind an Append")
		g.ok(cut("/f", len(was)))
		three, _ := g.tree.Read("/f")
		spoil(three, 0xCC)
		g.same("a change of an answer, behind a Cut")
		g.ok(add("/f", "yz"))
	}
	empty, _ := g.tree.Read("/e")
	spoil(empty, 0xEE)
	g.same("a change of no bytes")
}

// TestReadIsGivenBack: an answer may be handed in.
func TestReadIsGivenBack(t *testing.T) {
	g := newGround(t, 60, 9, create("/f"), add("/f", "mail"))
	for range 6 {
		b, _ := g.tree.Read("/f")
		g.ok(Op{Kind: Append, Path: "/f", Data: b})
		spoil(b, 0xEE)
	}
	reads(t, g.tree, "/f", many(64, "mail"), api.OK)
}

func TestListIsNew(t *testing.T) {
	g := newGround(t, 60, 30, mkdir("/d"))
	for n := range 12 {
		one, _ := g.tree.List("/d")
		two, _ := g.tree.List("/d")
		was := slices.Clone(two)
		spoil(one, "spoilt")
		if !slices.Equal(two, was) {
			t.Error("P2: two answers of List share memory")
		}
		g.ok(create(fmt.Sprint("/d/", n)))
		if !slices.Equal(two, was) {
			t.Error("P2: an answer of List changes with the directory")
		}
		g.same("a change of an answer")
	}
}

// TestTwin: P1102: it is the same, with as much free, and each goes its way.
func TestTwin(t *testing.T) {
	g := some(t)
	g.fill("/B", 0, 9)
	other := &ground{t, g.tree.Twin(), g.plain.twin()}
	other.same("Twin")
	if !Same(g.tree, other.tree) || g.tree == other.tree {
		t.Error("P1102: a twin is another tree")
	}
	acts := []Op{add("/b/d/f", " x"), cut("/c", 600), add("/c", "y"), unlink("/a"), create("/b/d/a/n"), rename("/B", "/b/B"), rmdir("/b/c"), rename("/b/d/f", "/c"), mkdir("/x")}
	for _, o := range acts {
		g.ok(o)
		other.same("an act on the tree that it was made of")
	}
	if Same(g.tree, other.tree) {
		t.Error("P1102: Same of unlike trees")
	}
	for _, o := range acts {
		was := tell(g.tree)
		other.ok(o)
		if tell(g.tree) != was {
			t.Errorf("P1102: %s on a twin is seen in the tree", named(o))
		}
		g.same("an act on its twin")
	}
	if !Same(g.tree, other.tree) || tell(g.tree) != tell(other.tree) {
		t.Error("P1102: the same acts made unlike trees")
	}
}

// TestTwinsShareNoBytes: a file's spare room is its own in each.
func TestTwinsShareNoBytes(t *testing.T) {
	g := newGround(t, 60, 9, create("/f"))
	for range 40 {
		g.ok(grow("/f", 33))
		one := &ground{t, g.tree.Twin(), g.plain.twin()}
		two := &ground{t, one.tree.Twin(), one.plain.twin()}
		one.ok(add("/f", "one"))
		two.ok(add("/f", "two"))
		g.ok(add("/f", "it"))
		two.ok(cut("/f", 5), add("/f", "+"))
		one.same("acts on its twins")
		two.same("acts on its twins")
		g.same("acts on its twins")
	}
}

// TestTwinHasTheSlots: what became free in a directory is free in its twin.
func TestTwinHasTheSlots(t *testing.T) {
	g := newGround(t, 4, 40, mkdir("/d"), create("/eat"))
	g.fill("/d", 0, 9)
	for i := range 9 {
		g.ok(unlink(fmt.Sprintf("/d/f%d", i)))
	}
	g.ok(grow("/eat", 512))
	other := &ground{t, g.tree.Twin(), g.plain.twin()}
	other.free(0, 37)
	other.fill("/d", 0, 16)
	other.refuses(api.ErrFull, create("/d/x"))
	g.fill("/d", 0, 16)
	g.refuses(api.ErrFull, create("/d/x"))
	again := &ground{t, other.tree.Twin(), other.plain.twin()}
	again.refuses(api.ErrFull, create("/d/x"))
	again.ok(unlink("/d/f3"), create("/d/x"))
}

// TestTwinOfEmpty: a twin of a tree of just its root may grow, too.
func TestTwinOfEmpty(t *testing.T) {
	g := newGround(t, 4, 4)
	other := &ground{t, g.tree.Twin(), g.plain.twin()}
	other.ok(mkdir("/d"), create("/d/f"))
	g.has("")
	g.free(4, 3)
	twin := &ground{t, other.tree.Twin(), other.plain.twin()}
	twin.ok(unlink("/d/f"), mkdir("/d/e"))
	other.has("/d/ /d/f")
}

// TestNoTreeOfNew: P1: a Tree that New did not make has no room, and no call on it panics.
func TestNoTreeOfNew(t *testing.T) {
	var x Tree
	for kind := range 9 {
		for _, s := range []string{"", "/", "/a", "/a/b"} {
			if e := x.Do(Op{Kind: kind, Path: s, To: "/b", Data: []byte("x")}); e == api.OK {
				t.Errorf("P1: act %d of %q is done by a Tree without inodes", kind, s)
			}
			x.Stat(s)
			x.Read(s)
			x.List(s)
		}
	}
	if walked(&x) != "" || walked(x.Twin()) != "" || !Same(&x, x.Twin()) {
		t.Error("P1: a Tree that New did not make has something in it")
	}
}
