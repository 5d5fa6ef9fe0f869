package tree

import (
	"fmt"
	"math/rand/v2"
	"slices"
	"testing"

	"mailbag/api"
)

// TestAllPairs does each act on each path, and Rename of each path to each, on trees
// with room and without, each time from the same tree on.
func TestAllPairs(t *testing.T) {
	made := []Op{mkdir("/a"), mkdir("/a/a"), create("/a/b"), mkdir("/b"), create("/b/a"), mkdir("/b/b"), create("/b/b/a"), create("/c"), add("/c", "mail"), grow("/a/b", 600), mkdir("/ab")}
	paths := []string{"/", "/a", "/b", "/c", "/x", "/ab", "/a/a", "/a/b", "/a/c", "/b/a", "/b/b", "/c/a", "/x/a", "/a/a/a", "/b/b/a", "/b/b/c", "/a/b/a", "/ab/a", "/a/a/a/a", "/b/b/a/a", "x", "/a/", "/x/a/a/a/a/a/a/a/a"}
	for _, room := range [][2]int{{50, 50}, {7, 11}, {7, 12}, {8, 11}} {
		start := newGround(t, room[0], room[1], made...)
		try := func(o Op) {
			g := &ground{t, start.tree.Twin(), start.plain.twin()}
			g.does(o)
			g.does(o)
			start.same("an act on its twin")
		}
		for _, s := range paths {
			for kind := -1; kind < 10; kind++ {
				for _, n := range []int{0, 4, 600} {
					try(Op{Kind: kind, Path: s, Data: []byte(letters(n)), N: n})
				}
			}
			for _, to := range paths {
				try(rename(s, to))
			}
		}
	}
}

// walker goes on with a tree, by acts on few names.
type walker struct {
	*ground
	dice *rand.Rand
}

func (w *walker) path() string {
	s := ""
	depth := 1 + w.dice.IntN(4)
	if w.dice.IntN(12) == 0 {
		depth = w.dice.IntN(10)
	}
	for range depth {
		s += "/" + string("abcd"[w.dice.IntN(4)])
	}
	switch w.dice.IntN(60) {
	case 0:
		s += "/"
	case 1:
		s = "/"
	}
	if s == "" {
		return "/"
	}
	return s
}

// wide is a path of one of many names in few directories.
func (w *walker) wide() string {
	return fmt.Sprintf("%s/n%d", []string{"", "/a", "/b"}[w.dice.IntN(3)], w.dice.IntN(90))
}

// place is a path in what is a directory, most often.
func (w *walker) place() string {
	switch w.dice.IntN(8) {
	case 0:
		return w.path()
	case 1:
		return w.wide()
	}
	s := ""
	if all := w.plain.paths(); len(all) > 0 {
		s = all[w.dice.IntN(len(all))]
	}
	if !w.plain.things[s].dir && w.dice.IntN(5) > 0 {
		s, _ = cutLast(s)
	}
	return s + "/" + string("abcd"[w.dice.IntN(4)])
}

// thing is the path of what is there, most often.
func (w *walker) thing() string {
	all := w.plain.paths()
	if len(all) == 0 || w.dice.IntN(6) == 0 {
		return w.place()
	}
	return all[w.dice.IntN(len(all))]
}

func (w *walker) act() Op {
	kinds := []int{Create, Create, Create, Mkdir, Mkdir, Mkdir, Append, Append, Cut, Unlink, Rmdir, Rename, Rename, Rename}
	o := Op{Kind: kinds[w.dice.IntN(len(kinds))], Path: w.thing(), To: w.place()}
	switch o.Kind {
	case Create, Mkdir:
		o.Path = w.place()
	case Append:
		o.Data = []byte(letters(w.dice.IntN(1 + []int{3, 3, 600, 600, 600, 5000, 5000, 80000}[w.dice.IntN(8)])))
	case Cut:
		info, _ := w.tree.Stat(o.Path)
		o.N = w.dice.IntN(info.Size+3) - 1
	case Rename:
		if w.dice.IntN(2) == 0 {
			o.To = w.thing()
		}
	}
	wrong := []string{"/", many(9, "/a"), many(300, "x")}[w.dice.IntN(3)]
	switch w.dice.IntN(60) {
	case 0:
		o.Path += wrong
	case 1:
		o.To += wrong
	case 2:
		o.Kind = w.dice.IntN(20) - 5
	}
	return o
}

func TestWalks(t *testing.T) {
	seen := map[string]int{}
	for seed := range uint64(60) {
		dice := rand.New(rand.NewPCG(seed, 11))
		blocks := []int{3, 8, 30, 100, 600, 16384}[seed%6]
		w := &walker{newGround(t, blocks, []int{256, 12, 40}[seed/6%3]), dice}
		for range 300 {
			o := w.act()
			seen[fmt.Sprint(o.Kind, " ", w.does(o))]++
			if slices.ContainsFunc(w.plain.paths(), tooDeep) {
				seen["deep"]++
			}
			if dice.IntN(40) == 0 {
				w.tree, w.plain = w.tree.Twin(), w.plain.twin()
			}
		}
		w.empty()
	}
	if seen["deep"] == 0 {
		t.Error("the walks have no things that are too deep")
	}
	for _, c := range []struct {
		kind int
		errs []api.Errno
	}{
		{Create, []api.Errno{api.OK, api.ErrName, api.ErrLong, api.ErrNone, api.ErrFile, api.ErrExists, api.ErrFull}},
		{Mkdir, []api.Errno{api.OK, api.ErrName, api.ErrLong, api.ErrNone, api.ErrFile, api.ErrExists, api.ErrFull}},
		{Append, []api.Errno{api.OK, api.ErrName, api.ErrLong, api.ErrNone, api.ErrFile, api.ErrDir, api.ErrFull}},
		{Cut, []api.Errno{api.OK, api.ErrName, api.ErrLong, api.ErrNone, api.ErrFile, api.ErrDir, api.ErrArg}},
		{Unlink, []api.Errno{api.OK, api.ErrName, api.ErrLong, api.ErrNone, api.ErrFile, api.ErrDir}},
		{Rmdir, []api.Errno{api.OK, api.ErrName, api.ErrLong, api.ErrNone, api.ErrFile, api.ErrBusy}},
		{Rename, []api.Errno{api.OK, api.ErrName, api.ErrLong, api.ErrNone, api.ErrFile, api.ErrDir, api.ErrBusy, api.ErrFull}},
	} {
		for _, e := range c.errs {
			if seen[fmt.Sprint(c.kind, " ", e)] < 3 {
				t.Errorf("the walks have %d acts of kind %d that are %v", seen[fmt.Sprint(c.kind, " ", e)], c.kind, e)
			}
		}
	}
}

// empty takes all away, the deepest first: what is left taken is the root's slots.
// Things that are too deep are brought up ahead of that.
func (w *walker) empty() {
	for {
		all := w.plain.paths()
		if len(all) == 0 {
			break
		}
		last := all[len(all)-1]
		for tooDeep(last) {
			w.raise(last)
			all = w.plain.paths()
			last = all[len(all)-1]
		}
		if w.plain.things[last].dir {
			w.ok(rmdir(last))
		} else {
			w.ok(unlink(last))
		}
	}
	w.has("")
	w.free(w.plain.blocks-w.plain.things[""].blocks(), w.plain.inodes-1)
}

// raise brings what is above a deep path up to the root, which may need room there:
// then what is free of all names in it is taken away first.
func (w *walker) raise(s string) {
	at := s
	for tooDeep(at) {
		at, _ = cutLast(at)
	}
	to := "/raised"
	for w.plain.things[to] != nil {
		to += "+"
	}
	if e := w.does(rename(at, to)); e == api.OK {
		return
	}
	for _, other := range w.plain.paths() {
		if up, _ := cutLast(other); up == "" && !w.plain.things[other].dir {
			w.ok(unlink(other))
			w.ok(rename(at, to))
			return
		}
	}
	w.Fatal("no room to bring deep things up")
}

// TestSameCallsAnswerTheSame: P3: the order in which maps are gone through is not seen.
func TestSameCallsAnswerTheSame(t *testing.T) {
	var first string
	for range 5 {
		g := some(t)
		g.fill("/B", 0, 20)
		g.ok(rename("/b", "/B/b"))
		told := tell(g.tree)
		names, _ := g.tree.List("/B")
		told += fmt.Sprint(names)
		if first == "" {
			first = told
		}
		if told != first {
			t.Errorf("P3: %s\nthen %s", first, told)
		}
	}
}
