package fs

import (
	"fmt"
	"math/rand/v2"
	"strings"
	"testing"

	"mailbag/api"
	"mailbag/tree"
)

// walker goes on with a file system, by calls on few names.
type walker struct {
	*ground
	dice *rand.Rand
	seen map[string]int
}

func (w *walker) letter() string { return "/" + string("abcd"[w.dice.IntN(4)]) }

// paths are those of all things, and which of them are directories.
func (w *walker) paths() (all []string, dirs []bool) {
	for s, info := range w.tree.Walk() {
		all, dirs = append(all, s), append(dirs, info.Dir)
	}
	return all, dirs
}

// place is a path in what is a directory, most often.
func (w *walker) place() string {
	if w.dice.IntN(6) == 0 {
		return fmt.Sprintf("%s/n%d", []string{"", "/a", "/b"}[w.dice.IntN(3)], w.dice.IntN(60))
	}
	all, dirs := w.paths()
	if len(all) == 0 {
		return w.letter()
	}
	i := w.dice.IntN(len(all))
	if s := all[i]; !dirs[i] && w.dice.IntN(6) > 0 {
		return s[:strings.LastIndex(s, "/")] + w.letter()
	}
	return all[i] + w.letter()
}

// thing is the path of what is there, most often.
func (w *walker) thing() string {
	all, _ := w.paths()
	if len(all) == 0 || w.dice.IntN(6) == 0 {
		return w.place()
	}
	return all[w.dice.IntN(len(all))]
}

func (w *walker) size() int {
	return w.dice.IntN(1 + []int{3, 3, 600, 600, 600, 5000, 8192, 8300, 20000}[w.dice.IntN(9)])
}

func (w *walker) act() tree.Op {
	kinds := []int{tree.Create, tree.Create, tree.Create, tree.Mkdir, tree.Mkdir, tree.Mkdir, tree.Append, tree.Append, tree.Append, tree.Cut, tree.Unlink, tree.Rmdir, tree.Rename, tree.Rename, tree.Rename}
	o := tree.Op{Kind: kinds[w.dice.IntN(len(kinds))], Path: w.thing(), To: w.place()}
	switch o.Kind {
	case tree.Create, tree.Mkdir:
		o.Path = w.place()
	case tree.Append:
		o.Data = []byte(letters(w.size()))
	case tree.Cut:
		info, _ := w.tree.Stat(o.Path)
		o.N = w.dice.IntN(info.Size+3) - 1
	case tree.Rename:
		if w.dice.IntN(2) == 0 {
			o.To = w.thing()
		}
	}
	wrong := []string{"/", many(9, "/a"), many(300, "x")}[w.dice.IntN(3)]
	switch w.dice.IntN(80) {
	case 0:
		o.Path += wrong
	case 1:
		o.To += wrong
	case 2:
		o.Kind = w.dice.IntN(20) - 5
	case 3:
		o.Path = "/"
	}
	return o
}

// step is one call, or one that is refused.
func (w *walker) step() {
	w.Helper()
	switch w.dice.IntN(24) {
	case 0:
		w.opening()
	case 1, 2:
		if fd, ok := w.number(); ok && askable(w.open[fd]) {
			w.seen[fmt.Sprint("number ", w.appends(fd, letters(w.size())))]++
		}
	case 3:
		if fd, ok := w.number(); ok {
			w.closes(fd)
		}
	case 4:
		w.sync()
	case 5:
		if fd, ok := w.number(); ok {
			if e := w.fs.Fsync(fd); e != api.OK {
				w.Fatalf("P1203: Fsync: %v", e)
			}
		}
	case 6:
		w.power()
	default:
		o := w.act()
		w.seen[fmt.Sprint(o.Kind, " ", w.does(o))]++
	}
}

func (w *walker) number() (int, bool) {
	for fd := range api.MaxOpen {
		if _, ok := w.open[fd]; ok && w.dice.IntN(2) == 0 {
			return fd, true
		}
	}
	return 0, false
}

func (w *walker) opening() {
	w.Helper()
	s := w.thing()
	info, e := w.tree.Stat(s)
	if e == api.OK && info.Dir {
		e = api.ErrDir
	}
	if e != api.OK {
		w.opensNot(s, e)
	} else if len(w.open) == api.MaxOpen {
		w.opensNot(s, api.ErrFull)
	} else {
		w.opens(s)
		if w.isDeep() {
			w.seen["open with deep things"]++
		}
	}
}

// power goes and comes behind a Sync, or Mount is all that is done. Where nothing is
// too deep for its slots the tree is Tree's from then on.
func (w *walker) power() {
	w.Helper()
	if w.dice.IntN(2) == 0 {
		w.again(w.dice.IntN(3), w.dice.IntN(3), 1)
	}
	if !w.isDeep() {
		w.seen["Tree"]++
		w.tree = w.fs.Tree()
	}
	sound(w.T, w.fs)
}

func (w *walker) isDeep() bool {
	for s := range w.tree.Walk() {
		if !askable(s) || !askable(s+"/255") {
			return true
		}
	}
	return false
}

func TestWalks(t *testing.T) {
	walks := make([]*walker, 40)
	t.Run("side by side", func(t *testing.T) {
		for i := range walks {
			t.Run(fmt.Sprint(i), func(t *testing.T) {
				t.Parallel()
				w := &walker{newGround(t, []int{3, 8, 30, 100, 300}[i%5]), rand.New(rand.NewPCG(uint64(i), 12)), map[string]int{}}
				for range 250 {
					w.step()
				}
				if w.isDeep() {
					w.seen["deep"]++
				}
				sound(t, w.fs)
				walks[i] = w
			})
		}
	})
	if t.Failed() {
		return
	}
	seen := map[string]int{}
	for _, w := range walks {
		for what, n := range w.seen {
			seen[what] += n
		}
	}
	for what, least := range map[string]int{"deep": 1, "Tree": 20, "number ok": 20, "number full": 3, "number long": 1} {
		if seen[what] < least {
			t.Errorf("the walks have %d of %q", seen[what], what)
		}
	}
	for kind, errs := range map[int][]api.Errno{
		tree.Create: {api.OK, api.ErrName, api.ErrLong, api.ErrNone, api.ErrFile, api.ErrExists, api.ErrFull},
		tree.Mkdir:  {api.OK, api.ErrName, api.ErrLong, api.ErrNone, api.ErrFile, api.ErrExists, api.ErrFull},
		tree.Append: {api.OK, api.ErrName, api.ErrLong, api.ErrNone, api.ErrFile, api.ErrDir, api.ErrFull},
		tree.Cut:    {api.OK, api.ErrName, api.ErrLong, api.ErrNone, api.ErrFile, api.ErrDir, api.ErrArg},
		tree.Unlink: {api.OK, api.ErrName, api.ErrLong, api.ErrNone, api.ErrFile, api.ErrDir, api.ErrBusy},
		tree.Rmdir:  {api.OK, api.ErrName, api.ErrLong, api.ErrNone, api.ErrFile, api.ErrBusy},
		tree.Rename: {api.OK, api.ErrName, api.ErrLong, api.ErrNone, api.ErrFile, api.ErrDir, api.ErrBusy, api.ErrFull},
	} {
		for _, e := range errs {
			if seen[fmt.Sprint(kind, " ", e)] < 2 {
				t.Errorf("the walks have %d acts of kind %d that are %v", seen[fmt.Sprint(kind, " ", e)], kind, e)
			}
		}
	}
}

// TestWalksThatAreCut lets the power go at some Write of a walk: what is left is a front of its acts.
func TestWalksThatAreCut(t *testing.T) {
	t.Parallel()
	for seed := range uint64(60) {
		w := &walker{newGround(t, []int{8, 30, 300}[seed%3]), rand.New(rand.NewPCG(seed, 13)), map[string]int{}}
		for range 4 {
			w.isCut()
		}
	}
}

func (w *walker) isCut() {
	w.Helper()
	w.sync()
	p := past{[]*tree.Tree{w.tree.Twin()}, 0}
	picks := []int{w.dice.IntN(2), w.dice.IntN(2), w.dice.IntN(2), w.dice.IntN(2), 1, 0, 1, 1, 0}
	w.disk.Arm(1+w.dice.IntN(120), picks...)
	for range 80 {
		o := w.act()
		e := w.fs.Do(o)
		want := w.tree.Twin()
		done := want.Do(o) == api.OK && (o.Kind != tree.Append || len(o.Data) <= 8192)
		if done && (e == api.OK || e == api.ErrDown) {
			w.tree = want
			p.trees = append(p.trees, want.Twin())
		}
		if e == api.OK && w.dice.IntN(12) == 0 {
			if e = w.fs.Sync(); e == api.OK {
				p.synced = len(p.trees) - 1
			}
		}
		if e == api.ErrDown {
			break
		}
	}
	w.disk.Cut(picks...)
	w.ground, _ = p.mounts(w.T, w.disk, "a walk that is cut")
	w.same("Mount")
	sound(w.T, w.fs)
}
