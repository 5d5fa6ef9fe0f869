package tree

import (
	"fmt"
	"slices"
	"testing"

	"mailbag/api"
	"mailbag/path"
)

func some(t *testing.T) *ground {
	return newGround(t, 100, 40, mkdir("/b"), mkdir("/b/d"), create("/b/d/f"), add("/b/d/f", "mail"), create("/a"), mkdir("/b/c"), create("/c"), grow("/c", 700), mkdir("/b/d/a"), create("/b!"), mkdir("/B"))
}

func TestStat(t *testing.T) {
	g := some(t)
	for s, want := range map[string]Info{
		"/": {Dir: true, Kids: 5}, "/b": {Dir: true, Kids: 2}, "/b/d": {Dir: true, Kids: 2}, "/b/d/f": {Size: 4}, "/a": {},
		"/b/c": {Dir: true}, "/c": {Size: 700}, "/b/d/a": {Dir: true}, "/b!": {}, "/B": {Dir: true},
	} {
		stats(t, g.tree, s, want)
	}
	g.ok(unlink("/a"), cut("/c", 3), unlink("/b/d/f"))
	stats(t, g.tree, "/", Info{Dir: true, Kids: 4})
	stats(t, g.tree, "/c", Info{Size: 3})
	stats(t, g.tree, "/b/d", Info{Dir: true, Kids: 1})
}

func TestList(t *testing.T) {
	g := some(t)
	lists(t, g.tree, "/", api.OK, "B", "a", "b", "b!", "c")
	lists(t, g.tree, "/b", api.OK, "c", "d")
	lists(t, g.tree, "/b/d", api.OK, "a", "f")
	lists(t, g.tree, "/b/c", api.OK)
	lists(t, g.tree, "/c", api.ErrFile)
	g.ok(mkdir("/n"))
	g.fill("/n", 0, 12)
	lists(t, g.tree, "/n", api.OK, "f0", "f1", "f10", "f11", "f2", "f3", "f4", "f5", "f6", "f7", "f8", "f9")
}

// TestWalk: what stands in a directory comes right behind it, ahead of all names that
// are greater than its own; names are held against each other, not paths ("!" is less than "/").
func TestWalk(t *testing.T) {
	g := some(t)
	g.has("/B/ /a /b/ /b/c/ /b/d/ /b/d/a/ /b/d/f /b! /c")
	for s, info := range g.tree.Walk() {
		stats(t, g.tree, s, info)
	}
	if got := walked(newGround(t, 0, 1).tree); got != "" {
		t.Errorf("P1102: an empty tree has %q", got)
	}
}

// TestLooksAgree: Walk has what Stat and List tell from the root on.
func TestLooksAgree(t *testing.T) {
	g := some(t)
	var all []string
	var visit func(s string)
	visit = func(s string) {
		names, e := g.tree.List(s)
		info, _ := g.tree.Stat(s)
		if e != api.OK || info.Kids != len(names) || !info.Dir || !slices.IsSorted(names) {
			t.Errorf("P1102: %s: %+v, %q, %v", s, info, names, e)
		}
		for _, name := range names {
			at := s + "/" + name
			if s == "/" {
				at = s + name
			}
			info, _ := g.tree.Stat(at)
			all = append(all, fmt.Sprint(at, info))
			if info.Dir {
				visit(at)
			} else if text, e := g.tree.Read(at); len(text) != info.Size || e != api.OK || info.Kids != 0 {
				t.Errorf("P1102: %s: %+v, %d bytes, %v", at, info, len(text), e)
			}
		}
	}
	visit("/")
	var walked []string
	for s, info := range g.tree.Walk() {
		walked = append(walked, fmt.Sprint(s, info))
		if up, name, e := path.Parent(s); e != api.OK {
			t.Errorf("P1102: Walk tells %q", s)
		} else if names, _ := g.tree.List(up); !slices.Contains(names, name) {
			t.Errorf("P1102: %q has %q, not %q", up, names, name)
		}
	}
	if !slices.Equal(all, walked) {
		t.Errorf("P1102: Walk tells %q; Stat and List %q", walked, all)
	}
}

// TestWalkLeftEarly: at each step; and ranged over again, by one sequence.
func TestWalkLeftEarly(t *testing.T) {
	g := some(t)
	whole := []string{"/B", "/a", "/b", "/b/c", "/b/d", "/b/d/a", "/b/d/f", "/b!", "/c"}
	walk := g.tree.Walk()
	for n := 1; n <= len(whole); n++ {
		var got []string
		for s := range walk {
			got = append(got, s)
			if len(got) == n {
				break
			}
		}
		if !slices.Equal(got, whole[:n]) {
			t.Errorf("P7: a walk that is left behind %d: %q", n, got)
		}
	}
	var inner int
	for range walk {
		for range walk {
			inner++
		}
	}
	if inner != len(whole)*len(whole) {
		t.Errorf("P7: a walk inside itself has %d steps", inner)
	}
	g.same("walks")
}

// TestWalkIsOfThen: P7: it goes over the tree as that was when it was asked for.
func TestWalkIsOfThen(t *testing.T) {
	g := some(t)
	want := walked(g.tree)
	walk := g.tree.Walk()
	var got []string
	acts := []Op{unlink("/c"), rename("/b", "/z"), mkdir("/b"), create("/b/new"), add("/a", "more"), cut("/z/d/f", 1), unlink("/a"), mkdir("/a")}
	for s, info := range walk {
		if info.Size != map[string]int{"/b/d/f": 4, "/c": 700}[s] || info.Kids != map[string]int{"/b": 2, "/b/d": 2}[s] {
			t.Errorf("P7: %s is %+v", s, info)
		}
		if len(acts) > 0 {
			g.ok(acts[0])
			acts = acts[1:]
		}
		if info.Dir {
			s += "/"
		}
		got = append(got, s)
	}
	if fmt.Sprint(got) != "["+want+"]" {
		t.Errorf("P7: the walk has %q; want %q", got, want)
	}
	var again []string
	for s, info := range walk {
		if info.Dir {
			s += "/"
		}
		again = append(again, s)
	}
	if !slices.Equal(again, got) {
		t.Errorf("P7: the same walk has %q then", again)
	}
	g.has("/B/ /a/ /b/ /b/new /b! /z/ /z/c/ /z/d/ /z/d/a/ /z/d/f")
}

func TestSame(t *testing.T) {
	g := some(t)
	base := func(ops ...Op) *Tree {
		g := some(t)
		g.ok(ops...)
		return g.tree
	}
	alike := func(x, y *Tree, want bool, what string) {
		t.Helper()
		if Same(x, y) != want || Same(y, x) != want {
			t.Errorf("P1102: Same, %s: want %v", what, want)
		}
	}
	alike(g.tree, g.tree, true, "itself")
	alike(g.tree, base(), true, "the same acts")
	for _, l := range [][]Op{
		{create("/x")}, {create("/b/c/x")}, {mkdir("/b/d/a/x")}, {unlink("/a")}, {rmdir("/b/c")}, {rmdir("/b/d/a")},
		{rename("/a", "/A")}, {rename("/b/c", "/b/e")}, {rename("/a", "/b/a")}, {rename("/b/d/f", "/b/d/g")},
		{unlink("/a"), mkdir("/a")}, {rmdir("/b/c"), create("/b/c")}, {rmdir("/b/d/a"), create("/b/d/a")},
		{add("/a", "\x00")}, {add("/b/d/f", "s")}, {cut("/b/d/f", 3)}, {cut("/b/d/f", 3), add("/b/d/f", "L")}, {cut("/c", 0)}, {cut("/c", 699), add("/c", "\x00")},
		{rename("/a", "/x"), rename("/b/d/f", "/a"), rename("/x", "/b/d/f")},
	} {
		alike(g.tree, base(l...), false, named(l[0]))
	}
	empty, _ := New(0, 1)
	other, _ := New(16384, 256)
	alike(empty, other, true, "empty trees of unlike room")
	alike(empty, g.tree, false, "an empty one")
}

// TestSameIsNotOfRoom: what is free, slots and the order of acts do not count.
func TestSameIsNotOfRoom(t *testing.T) {
	g := newGround(t, 50, 50, mkdir("/d"), create("/d/f"), add("/d/f", "mail"), create("/a"))
	other := newGround(t, 60, 90, create("/a"), create("/x"), add("/x", "ma"), mkdir("/y"))
	other.fill("", 0, 30)
	for i := range 30 {
		other.ok(unlink(fmt.Sprintf("/f%d", i)))
	}
	if Same(g.tree, other.tree) {
		t.Error("P1102: unlike trees are the same")
	}
	other.ok(add("/x", "il, and more"), rename("/y", "/d"), rename("/x", "/d/f"), cut("/d/f", 4))
	if !Same(g.tree, other.tree) || !Same(other.tree, g.tree) {
		t.Error("P1102: Same minds more than names, kinds and bytes")
	}
}
