package fs

import (
	"fmt"
	"testing"

	"mailbag/api"
	"mailbag/tree"
)

// lockstep holds Tree against the file system for acts to come, too: it has the
// slots that the directories have.
func (g *ground) lockstep(ops ...tree.Op) {
	g.Helper()
	g.tree = g.fs.Tree()
	g.same("Tree")
	for _, o := range ops {
		g.does(o)
	}
}

// TestTreeIsApart: P7: what is done to it is not seen in the file system, nor the other way.
func TestTreeIsApart(t *testing.T) {
	g := newGround(t, 60, some...)
	one, two := g.fs.Tree(), g.fs.Tree()
	if one == two {
		t.Error("P7: Tree answers one that somebody has")
	}
	for _, o := range []tree.Op{unlink("/k"), create("/n"), add("/a/f", "x"), rename("/a/b", "/b")} {
		if e := one.Do(o); e != api.OK {
			t.Fatal(e)
		}
	}
	g.same("acts on a Tree")
	if !tree.Same(two, g.tree) || tree.Same(one, two) {
		t.Error("P7: two Trees are one")
	}
	was := g.tree.Twin()
	g.ok(cut("/k", 1), rmdir("/e"))
	if !tree.Same(two, was) {
		t.Error("P7: a Tree changes with the file system")
	}
}

// TestTreeHasTheSlots: of directories that had more names once: what they need is
// taken, comes back with Rmdir, and is there for names to come.
func TestTreeHasTheSlots(t *testing.T) {
	t.Parallel()
	for _, names := range []int{1, 8, 9, 16, 65, 200} {
		for _, left := range []int{0, 1, 9} {
			if left > names {
				continue
			}
			g := newGround(t, 80, mkdir("/d"), create("/eat"))
			g.fill("/d", 0, names)
			for i := left; i < names; i++ {
				g.quickly(unlink(fmt.Sprintf("/d/f%d", i)))
			}
			g.again(1)
			g.eat("/eat", 0)
			g.lockstep(create("/d/x"), create("/x"), rename("/x", "/d/y"), mkdir("/d/z"))
			g.lockstep(cut("/eat", 0), unlink("/d/x"), unlink("/d/y"), rmdir("/d/z"))
			for i := range left {
				g.quickly(unlink(fmt.Sprintf("/d/f%d", i)))
			}
			g.lockstep(rmdir("/d"))
		}
	}
}

// TestTreeHasTheRootsSlots: they come back with nothing.
func TestTreeHasTheRootsSlots(t *testing.T) {
	t.Parallel()
	for _, names := range []int{1, 9, 70, 255} {
		g := newGround(t, 80)
		g.fill("", 0, names)
		for i := range names {
			g.quickly(unlink(fmt.Sprintf("/f%d", i)))
		}
		g.lockstep(create("/eat"))
		g.eat("/eat", 0)
		g.lockstep()
		for i := range 9 {
			g.does(create(fmt.Sprintf("/%d", i)))
		}
	}
}

// TestTreeOfAWideRoot: which had names for all inodes, of which directories have some now.
func TestTreeOfAWideRoot(t *testing.T) {
	t.Parallel()
	g := newGround(t, 120)
	g.fill("", 0, 255)
	for i := range 255 {
		g.quickly(unlink(fmt.Sprintf("/f%d", i)))
	}
	for i := range 20 {
		g.quickly(mkdir(fmt.Sprintf("/%d", i)), mkdir(fmt.Sprintf("/%d/d", i)))
	}
	g.quickly(create("/eat"))
	g.eat("/eat", 0)
	g.tree = g.fs.Tree()
	for i := range 20 {
		g.quickly(rmdir(fmt.Sprintf("/%d/d", i)))
	}
	g.fill("", 0, 234)
	g.refuses(api.ErrFull, create("/x"))
}

// TestTreeOfAllInodes: directories that had many names, where all inodes are in use now.
func TestTreeOfAllInodes(t *testing.T) {
	t.Parallel()
	g := newGround(t, 250, mkdir("/a"), mkdir("/b"), mkdir("/b/c"))
	g.fill("/a", 0, 100)
	g.fill("/b/c", 0, 152)
	g.free(250-1-14-1-20, 0)
	for i := range 152 {
		g.quickly(unlink(fmt.Sprintf("/b/c/f%d", i)))
	}
	g.fill("/a", 100, 152)
	g.lockstep(create("/x"), unlink("/a/f0"), create("/b/c/x"), rmdir("/b/c"), unlink("/b/c/x"), rmdir("/b/c"))
	sound(t, g.fs)
}

// TestTreeWithoutInodesForSlots: where no acts on names give a directory its slots
// again, what is there and what is free is told all the same.
func TestTreeWithoutInodesForSlots(t *testing.T) {
	t.Parallel()
	g := newGround(t, 300)
	for i := range 100 {
		g.quickly(mkdir(fmt.Sprintf("/d%d", i)))
	}
	g.fill("/d99", 0, 1)
	g.quickly(mkdir("/x"))
	for i := range 99 {
		g.quickly(rename(fmt.Sprintf("/d%d", i), fmt.Sprintf("/x/d%d", i)))
	}
	g.fill("/x", 0, 100)
	for i := range 100 {
		g.quickly(unlink(fmt.Sprintf("/x/f%d", i)))
	}
	for i := range 99 {
		g.quickly(rename(fmt.Sprintf("/x/d%d", i), fmt.Sprintf("/d%d", i)))
	}
	g.same("a directory that had more names than there are inodes for")
	g.again()
}

// deepen puts n directories one into another by Renames, each with names of so many bytes, and a file in each.
func deepen(g *ground, n, bytes int) {
	g.Helper()
	g.quickly(mkdir("/at"))
	for i := range n {
		g.quickly(create("/at/f"), add("/at/f", fmt.Sprint("file ", i)), mkdir("/up"), rename("/at", "/up/"+many(bytes, "d")), rename("/up", "/at"))
	}
	g.same("things that are deep")
}

// TestTreeOfDeepThings: what Renames brought deeper than a path goes, or past its bytes.
func TestTreeOfDeepThings(t *testing.T) {
	t.Parallel()
	for _, n := range []int{6, 7, 8, 9, 15, 16, 17, 40, 100} {
		for _, bytes := range []int{1, 30, 48} {
			g := newGround(t, 400)
			deepen(g, n, bytes)
			g.again()
			g.ok(create("/1"), mkdir("/2"), rename("/at", "/2/at"), create("/3"), mkdir("/4"), rename("/2", "/4/5"))
			g.ok(rename("/4", "/at"))
			sound(t, g.fs)
		}
	}
}

// TestTreeOfDeepThingsWithNumbers: names as they might be taken for a while.
func TestTreeOfDeepThingsWithNumbers(t *testing.T) {
	t.Parallel()
	for i := range 12 {
		g := newGround(t, 200, create("/0"), mkdir("/20"))
		for k := range 3 {
			deepen(g, 9+k, 3)
			g.quickly(rename("/at", fmt.Sprintf("/%d", i+k+1)))
		}
		g.same("deep things with numbers")
	}
}

// TestTreeOfDeepThingsInAFullRoot: there is no slot for what stands there for a while.
func TestTreeOfDeepThingsInAFullRoot(t *testing.T) {
	g := newGround(t, 200)
	for i := range 8 {
		deepen(g, 10, 3)
		g.quickly(rename("/at", fmt.Sprintf("/%d", i+1)))
	}
	g.same("a full root")
	g.fill("/1", 0, 5)
	g.again()
}

// TestTreeOfADeepThingBesideOthers: what stands in the root for a while takes no slots that it has not.
func TestTreeOfADeepThingBesideOthers(t *testing.T) {
	g := newGround(t, 80)
	deepen(g, 10, 3)
	g.quickly(create("/eat"))
	for i := range 6 {
		g.quickly(mkdir(fmt.Sprintf("/b%d", i)), create(fmt.Sprintf("/b%d/f", i)))
	}
	g.eat("/eat", 0)
	g.lockstep(create("/x"), rename("/b1/f", "/x"))
}

// TestTreeOfManyDirectories: what has a path is made where it is.
func TestTreeOfManyDirectories(t *testing.T) {
	g := newGround(t, 80, mkdir("/a"), mkdir("/a/a"), create("/eat"))
	for i := range 20 {
		g.quickly(mkdir(fmt.Sprintf("/a/b%d", i)), mkdir(fmt.Sprintf("/a/a/c%d", i)), create(fmt.Sprintf("/a/b%d/f", i)))
	}
	g.fill("", 0, 6)
	g.eat("/eat", 0)
	g.lockstep(create("/x"), rename("/a/b1/f", "/x"))
}

// TestTreeOfSlotsAtTheEdge: a directory that had more names once, and stands now where names in it have no path.
func TestTreeOfSlotsAtTheEdge(t *testing.T) {
	t.Parallel()
	for _, up := range []string{many(5, "/u"), many(6, "/u"), many(7, "/u"), many(5, "/"+many(47, "u")), many(5, "/"+many(48, "u"))} {
		for last := range 7 {
			g := newGround(t, 80, mkdir("/d"))
			g.fill("/d", 0, 20)
			for i := range 20 {
				g.quickly(unlink(fmt.Sprintf("/d/f%d", i)))
			}
			for i := 1; i < len(up); i++ {
				if up[i] == '/' {
					g.quickly(mkdir(up[:i]))
				}
			}
			to := up + "/" + many(4+last, "d")
			g.quickly(mkdir(up), rename("/d", to))
			g.lockstep(rmdir(to))
		}
	}
}

// TestTreeOfDeepSlots: directories that had more names, at the edge of what has a path and past it.
func TestTreeOfDeepSlots(t *testing.T) {
	for _, depth := range []int{5, 6, 7, 8, 9} {
		for _, names := range []int{1, 9, 20} {
			g := newGround(t, 200, mkdir("/d"), mkdir("/d/e"), create("/d/g"))
			g.fill("/d/e", 0, names)
			for i := range names {
				g.quickly(unlink(fmt.Sprintf("/d/e/f%d", i)))
			}
			g.quickly(mkdir("/d/e/x"), create("/d/e/x/y"))
			up := ""
			for range depth - 3 {
				up += "/u"
				g.quickly(mkdir(up))
			}
			g.ok(rename("/d", up+"/d"))
			g.again()
			g.lockstep(mkdir("/n"), rename("/u", "/n/u"), rename("/n/u/u", "/v"), rename("/n", "/m"))
		}
	}
}

// TestTreeOfForks: many things that are too deep, from several places.
func TestTreeOfForks(t *testing.T) {
	g := newGround(t, 300, mkdir("/a"), mkdir("/a/b"), mkdir("/a/b/c"), create("/a/b/c/f"))
	for i := range 6 {
		deepen(g, 6+i, 40)
		g.quickly(rename("/at", fmt.Sprintf("/a/b/c/%d", i)))
		deepen(g, 9, 1)
		g.quickly(rename("/at", fmt.Sprintf("/a/b/%d", i)))
	}
	g.same("forks")
	g.quickly(mkdir("/x"), mkdir("/x/x"), mkdir("/x/x/x"), rename("/a", "/x/x/x/1"))
	g.again()
	sound(t, g.fs)
}

// TestTreeOfPathsAtTheEdge: just 256 bytes, just 8 names, and one more.
func TestTreeOfPathsAtTheEdge(t *testing.T) {
	for _, last := range []int{9, 10, 11} {
		g := newGround(t, 60, mkdir("/x"), mkdir("/x/"+many(48, "a")), create("/x/"+many(48, "a")+"/"+many(last, "f")), mkdir("/x/"+many(48, "a")+"/"+many(last, "e")))
		up := ""
		for range 4 {
			up += "/" + many(48, "l")
			g.ok(mkdir(up))
		}
		g.ok(rename("/x/"+many(48, "a"), up+"/"+many(48, "a")))
		g.again()
	}
	for _, deep := range []int{5, 6, 7} {
		g := newGround(t, 60, mkdir("/x"), mkdir("/x/y"), create("/x/f"), mkdir("/x/y/z"))
		up := ""
		for range deep {
			up += "/u"
			g.ok(mkdir(up))
		}
		g.ok(rename("/x", up+"/x"))
		g.again()
	}
}
