package fs

import (
	"fmt"
	"testing"

	"mailbag/api"
	"mailbag/block"
	"mailbag/tree"
)

// step is a call of a row: an act, or by its name a Sync, a Fsync, an Append to number 0.
type step struct {
	name string
	op   tree.Op
}

func acts(ops ...tree.Op) []step {
	var row []step
	for _, o := range ops {
		row = append(row, step{"Do", o})
	}
	return row
}

func called(name string) step { return step{name: name} }

func appended(text string) step { return step{"Append", add("/a/f", text)} }

// rows are of acts of all kinds, some refused, with Syncs among them and without; of
// more blocks than a log has room for, so that it is synced within acts.
func rows() map[string][]step {
	first := append(acts(mkdir("/a"), create("/a/f")), called("Open"), called("Sync"))
	mixed := append([]step{}, first...)
	mixed = append(mixed, acts(some[2:]...)[:6]...)
	mixed = append(mixed, appended("by number"), called("Fsync"))
	mixed = append(mixed, acts(unlink("/a/f"), mkdir("/a"), rename("/a/b", "/b"), cut("/a/f", 900), create("/b/f"), rename("/b/g", "/b/f"))...)
	mixed = append(mixed, appended(letters(3000)), called("Sync"), called("Sync"))
	mixed = append(mixed, acts(rename("/a", "/b/a"), unlink("/x"), mkdir("/a"), rmdir("/a"), cut("/x/y", 1), grow("/b/f", 8193), mkdir("/c"))...)
	mixed = append(mixed, called("Fsync"))
	mixed = append(mixed, acts(create("/last"))...)

	great := append([]step{}, first...)
	for i := range 9 {
		great = append(great, appended(letters(8192-i*100)))
	}
	great = append(great, acts(cut("/a/f", 30000), create("/g"), grow("/g", 8192), rename("/a", "/b"), unlink("/g"), mkdir("/a"))...)
	great = append(great, called("Sync"))
	great = append(great, acts(rename("/b/f", "/f"), grow("/f", 8192), grow("/f", 8192), grow("/f", 8192), rmdir("/b"))...)

	names := append([]step{}, first...)
	for i := range 40 {
		names = append(names, acts(create(fmt.Sprint("/a/n", i)))...)
		if i%9 == 5 {
			names = append(names, called("Sync"))
		}
		if i%3 == 0 {
			names = append(names, acts(rename(fmt.Sprint("/a/n", i), fmt.Sprint("/a/n", i/2)))...)
		}
	}
	return map[string][]step{"mixed": mixed, "great": great, "names": names}
}

// past is what a row has made: the trees behind each call of Do and Append that was
// OK, and how many there were at the last Sync that was.
type past struct {
	trees  []*tree.Tree
	synced int
}

// runs does a row, up to the call in which the power goes, with the tree beside it.
func runs(t *testing.T, f *FS, x *tree.Tree, row []step) past {
	t.Helper()
	p := past{[]*tree.Tree{x.Twin()}, 0}
	for i, s := range row {
		e := api.OK
		switch s.name {
		case "Do":
			e = f.Do(s.op)
		case "Append":
			e = f.Append(0, s.op.Data)
		case "Open":
			_, e = f.Open("/a/f")
		case "Sync":
			e = f.Sync()
		case "Fsync":
			e = f.Fsync(0)
		}
		if f.Down() != (e == api.ErrDown) {
			t.Fatalf("P1204: call %d, %s, in which the power went: %v", i, s.name, e)
		}
		if s.op.Kind == 0 {
			if e == api.OK && s.name != "Open" {
				p.synced = len(p.trees) - 1
			}
		} else if want, refused := wanted(x, s.op); refused {
			if e != want && e != api.ErrDown {
				t.Fatalf("P1202: call %d, %s: %v; want %v", i, named(s.op), e, want)
			}
		} else if e == api.OK || e == api.ErrDown {
			p.trees = append(p.trees, x.Twin())
		} else {
			t.Fatalf("P1202: call %d, %s: %v", i, named(s.op), e)
		}
		if e == api.ErrDown {
			break
		}
	}
	return p
}

// wanted does an act with the tree, if the file system is to: /a/f is open, wherever it is.
func wanted(x *tree.Tree, o tree.Op) (api.Errno, bool) {
	if o.Kind == tree.Unlink && o.Path == "/a/f" {
		return api.ErrBusy, true
	}
	if o.Kind == tree.Append && len(o.Data) > 8192 {
		return api.ErrLong, true
	}
	for _, s := range []string{o.Path, "/b/f", "/f", "/b/a/f"} { // where rows have renamed it
		o.Path = s
		if e := x.Do(o); e == api.OK || s == "" {
			return e, false
		} else if o.Kind != tree.Append {
			return e, true
		}
	}
	return api.OK, true
}

// has is behind how many of the calls what there is stood, from the last Sync on.
func (p past) has(f *FS) (at int, ok bool) {
	x := f.Tree()
	for i := len(p.trees) - 1; i >= p.synced; i-- {
		if matches(f, x, p.trees[i]) {
			return i, true
		}
	}
	return 0, false
}

// mounts mounts behind a cut, and holds what there is against the calls.
func (p past) mounts(t *testing.T, d *block.Disk, where string) (*ground, int) {
	t.Helper()
	d.On()
	f := mounted(t, d)
	at, ok := p.has(f)
	if !ok {
		t.Fatalf("P1204: %s: what is left is no front of the calls from the last Sync on:\n%.1500s", where, walked(f.Tree()))
	}
	return &ground{t, d, f, p.trees[at].Twin(), map[int]string{}}, at
}

// goesOn does some acts behind a Mount, lets the power go again, with and without a Sync.
func goesOn(t *testing.T, g *ground, picks []int) {
	t.Helper()
	sound(t, g.fs)
	was := g.tree.Twin()
	g.quickly(create("/again"), grow("/again", 3000), mkdir("/more"), rename("/again", "/more/again"))
	g.opens("/more/again")
	g.appends(0, "and more")
	twin := g.disk.Twin()
	twin.Cut(picks...)
	twin.On()
	if f := mounted(t, twin); !equal(f, was) && !equal(f, g.tree) {
		p := past{[]*tree.Tree{was}, 0}
		p.without(t, f, g)
	}
	g.again(picks...)
	sound(t, g.fs)
}

// without checks acts that were not synced: a front of them is there.
func (p past) without(t *testing.T, f *FS, g *ground) {
	t.Helper()
	x := p.trees[0].Twin()
	for _, o := range []tree.Op{create("/again"), grow("/again", 3000), mkdir("/more"), rename("/again", "/more/again"), add("/more/again", "and more")} {
		if equal(f, x) {
			return
		}
		x.Do(o)
	}
	t.Error("P1204: what was done behind a Mount is left in part")
}

// eachRow tests rows side by side.
func eachRow(t *testing.T, test func(t *testing.T, row []step)) {
	for name, row := range rows() {
		t.Run(name, func(t *testing.T) {
			t.Parallel()
			test(t, row)
		})
	}
}

// TestPowerAtEachWrite cuts rows at each Write, with picks of many kinds, some at each.
func TestPowerAtEachWrite(t *testing.T) {
	eachRow(t, func(t *testing.T, row []step) {
		fronts := map[bool]int{}
		for at, cuts := 1, true; cuts; at++ {
			cuts = false
			for i := range 3 {
				picks := kinds[(at+3*i)%len(kinds)]
				g := newGround(t, 300)
				g.disk.Arm(at, picks...)
				p := runs(t, g.fs, g.tree, row)
				if !g.disk.Off() {
					continue
				}
				cuts = true
				other, front := p.mounts(t, g.disk, fmt.Sprintf("cut at %d, picks %v", at, picks[:min(len(picks), 9)]))
				fronts[front > p.synced]++
				if (at+i)%11 == 0 {
					goesOn(t, other, picks)
				}
			}
		}
		if fronts[true] == 0 || fronts[false] == 0 {
			t.Errorf("P1204: all fronts were alike: %v", fronts)
		}
	})
}

// TestPowerInMount cuts a row in a Sync, and then Mount at each of its Writes, and again.
func TestPowerInMount(t *testing.T) {
	eachRow(t, func(t *testing.T, row []step) {
		for at := 3; at < 140; at += 9 {
			g := newGround(t, 300)
			g.disk.Arm(at, 1, 0, 1, 1)
			p := runs(t, g.fs, g.tree, row)
			if !g.disk.Off() {
				break
			}
			g.disk.On()
			where := fmt.Sprintf("cut at %d", at)
			_, first := p.mounts(t, g.disk.Twin(), where)
			mountCuts(t, g.disk, p, first, where)
		}
	})
}

func mountCuts(t *testing.T, disk *block.Disk, p past, first int, where string) {
	t.Helper()
	for at := 1; ; at++ {
		cuts := 0
		for _, picks := range kinds {
			d := disk.Twin()
			for range 3 {
				d.Arm(max(1, at-cuts), picks...)
				if f, e := Mount(d); e == api.ErrDown && f == nil {
					cuts++
					d.On()
				} else if e != api.OK {
					t.Fatalf("P1204: %s, and in Mount at %d: %v", where, at, e)
				}
			}
			d.Arm(0)
			if _, again := p.mounts(t, d, where); again != first {
				t.Fatalf("P1204: %s, and in Mount at %d: another front", where, at)
			}
		}
		if cuts == 0 {
			return
		}
	}
}

// TestPowerBetweenCalls cuts rows behind each of their calls.
func TestPowerBetweenCalls(t *testing.T) {
	eachRow(t, func(t *testing.T, row []step) {
		for calls := range len(row) + 1 {
			for i, picks := range kinds {
				g := newGround(t, 300)
				p := runs(t, g.fs, g.tree, row[:calls])
				g.disk.Cut(picks...)
				if !g.fs.Down() {
					t.Fatal("P1202: Down behind a cut")
				}
				other, _ := p.mounts(t, g.disk, fmt.Sprintf("cut behind %d calls", calls))
				if (calls+i)%13 == 0 {
					goesOn(t, other, picks)
				}
			}
		}
	})
}

// TestSyncedStays: behind a Sync that was OK the power may go at once, and each time again.
func TestSyncedStays(t *testing.T) {
	for _, picks := range kinds {
		g := newGround(t, 300)
		for i, o := range some {
			g.ok(o)
			if i%3 == 0 {
				g.again(picks...)
			}
		}
		sound(t, g.fs)
	}
}
