package fs

import (
	"bytes"
	"fmt"
	"testing"

	"mailbag/api"
	"mailbag/block"
	"mailbag/codec"
	"mailbag/tree"
	"mailbag/wal"
)

func TestLeast(t *testing.T) {
	if Least() != 100 || Least() != api.LogBlocks+1+33+2 {
		t.Errorf("P1201: Least: %d", Least())
	}
	for _, blocks := range []int{1, 2, 64, 65, 66, 67, 97, 98, 99} {
		d := newDisk(t, blocks)
		d.Write(0, bytes.Repeat([]byte{7}, api.Block))
		was := d.Image()
		refused(t, d, api.ErrArg, api.ErrArg)
		if !bytes.Equal(d.Image(), was) {
			t.Errorf("P5: a disk of %d blocks was written", blocks)
		}
		d.Cut()
		refused(t, d, api.ErrArg, api.ErrArg)
	}
	if f, e := Mkfs(&block.Disk{}); f != nil || e != api.ErrArg {
		t.Errorf("P1201: Mkfs of a disk without blocks: %v", e)
	}
}

func refused(t *testing.T, d *block.Disk, mkfs, mount api.Errno) {
	t.Helper()
	if f, e := Mount(d); e != mount || f != nil {
		t.Errorf("P1201: Mount of a disk of %d: %v, %v; want %v", d.Blocks(), f, e, mount)
	}
	if f, e := Mkfs(d); e != mkfs || f != nil {
		t.Errorf("P1201: Mkfs of a disk of %d: %v, %v; want %v", d.Blocks(), f, e, mkfs)
	}
}

// TestLeastDisk: its one data block is the root's, when that has a name.
func TestLeastDisk(t *testing.T) {
	g := groundOf(t, 100)
	g.free(1, 255)
	g.ok(create("/f"))
	g.free(0, 254)
	g.refuses(api.ErrFull, grow("/f", 1))
	g.ok(mkdir("/d"), unlink("/f"), create("/g"), rename("/g", "/f"))
	g.refuses(api.ErrFull, create("/d/f"), rename("/f", "/d/f"))
	g.again()
	g.ok(rmdir("/d"))
	g.fill("", 0, 7)
	g.refuses(api.ErrFull, create("/x"))
	g.again(1, 0, 1)
}

// TestDataBlocks: the least map that has a bit for each data block, at the edges where it needs one block more.
func TestDataBlocks(t *testing.T) {
	t.Parallel()
	for _, c := range [][2]int{{100, 1}, {101, 2}, {200, 101}, {1000, 901},
		{4194, 4095}, {4195, 4096}, {4196, 4096}, {4197, 4097}, {4198, 4098},
		{8291, 8191}, {8292, 8192}, {8293, 8192}, {8294, 8193},
		{12388, 12287}, {12389, 12288}, {12390, 12288}, {12391, 12289},
		{16383, 16281}, {16384, 16282}} {
		if dataBlocks(c[0]) != c[1] {
			t.Errorf("the counts of this test are wrong: %d", c[0])
		}
		g := groundOf(t, c[0])
		g.free(c[1], 255)
		g.same("Mkfs")
		sound(t, g.fs)
		g.ok(create("/f"))
		if c[0] > 4200 && c[0] < 16384 {
			continue // to fill many of them takes long
		}
		g.eat("/f", 0)
		g.refuses(api.ErrFull, grow("/f", 513))
		g.again(0, 1)
		g.ok(unlink("/f"))
		g.free(c[1]-1, 255)
		sound(t, g.fs)
	}
}

func TestMkfs(t *testing.T) {
	d := newDisk(t, 200)
	f := made(t, d)
	if d.Waiting() != 0 || f.Down() {
		t.Errorf("P1201: %d blocks wait behind Mkfs", d.Waiting())
	}
	x, _ := tree.New(101, api.MaxInodes)
	for range 2 {
		g := &ground{t, d, f, x, map[int]string{}}
		g.same("Mkfs")
		sound(t, f)
		d.Cut(1, 1, 1)
		d.On()
		f = mounted(t, d)
	}
}

// TestMkfsOfWhatWasUsed: no byte that was on the disk is seen.
func TestMkfsOfWhatWasUsed(t *testing.T) {
	for _, c := range []byte{1, 'x', 0xFF} {
		d := newDisk(t, 200)
		for n := range 200 {
			d.Write(n, bytes.Repeat([]byte{c}, api.Block))
		}
		if c == 'x' {
			d.Sync()
		}
		if f, e := Mount(d); f != nil || e != api.ErrForm {
			t.Errorf("P1201: Mount of a disk of bytes %d: %v", c, e)
		}
		x, _ := tree.New(101, api.MaxInodes)
		g := &ground{t, d, made(t, d), x, map[int]string{}}
		g.same("Mkfs")
		g.ok(create("/f"), grow("/f", 100), grow("/f", 8000), cut("/f", 50), grow("/f", 1000))
		g.again()
	}
}

// TestMkfsTwice: what the first one had is gone, and what its Syncs had not is gone, too.
func TestMkfsTwice(t *testing.T) {
	for _, synced := range []bool{true, false} {
		g := newGround(t, 100, some...)
		if synced {
			g.sync()
		}
		x, _ := tree.New(100, api.MaxInodes)
		two := &ground{t, g.disk, made(t, g.disk), x, map[int]string{}}
		two.same("the second Mkfs")
		two.ok(create("/a"), grow("/a", 2000), mkdir("/b"))
		two.again(1, 0, 1, 0)
	}
}

// some is acts of all kinds, behind which there is a tree of some files and directories.
var some = []tree.Op{
	mkdir("/a"), create("/a/f"), grow("/a/f", 5000), mkdir("/a/b"), create("/a/b/g"), grow("/a/b/g", 700), create("/x"),
	rename("/x", "/a/b/y"), cut("/a/f", 600), create("/z"), unlink("/z"), mkdir("/e"), rmdir("/e"), mkdir("/e"), create("/k"), grow("/k", 8192),
}

func TestMount(t *testing.T) {
	g := newGround(t, 100, some...)
	g.opens("/k")
	g.opens("/a/f")
	g.again(1, 1, 1)
	sound(t, g.fs)
	g.ok(add("/k", "more"), unlink("/a/f"), create("/n"))
	g.again()
	g.again(1, 1)
	g.has("/a/ /a/b/ /a/b/g /a/b/y /e/ /k /n")
}

func (g *ground) has(want string) {
	g.Helper()
	got := ""
	for s, info := range g.fs.Tree().Walk() {
		got += " " + s
		if info.Dir {
			got += "/"
		}
	}
	if got != " "+want && got != want {
		g.Errorf("P1202: there are%s; want %s", got, want)
	}
}

// TestMountOfWhatWasNotSynced: it is as it had lasted.
func TestMountOfWhatWasNotSynced(t *testing.T) {
	g := newGround(t, 100, some...)
	g.sync()
	was := g.tree.Twin()
	g.ok(create("/n"), cut("/k", 0), unlink("/a/f"))
	g.disk.Cut(1, 1, 1, 1)
	g.disk.On()
	g.fs, g.tree = mounted(t, g.disk), was
	g.same("Mount behind acts that were not synced")
}

// TestMountAsItIs: a disk whose power never went, with what waits on it.
func TestMountAsItIs(t *testing.T) {
	g := newGround(t, 100, some...)
	g.sync()
	g.fs = mounted(t, g.disk)
	g.same("Mount")
	twin := g.disk.Twin()
	other := &ground{t, twin, mounted(t, twin), g.tree.Twin(), map[int]string{}}
	other.ok(unlink("/k"))
	other.sync()
	g.same("acts on a twin of the disk")
}

func TestWithoutPower(t *testing.T) {
	for _, disk := range []*block.Disk{newDisk(t, 100), newDisk(t, 200), newGround(t, 50, some[:4]...).disk} {
		disk.Cut()
		was := disk.Image()
		refused(t, disk, api.ErrDown, api.ErrDown)
		if !bytes.Equal(disk.Image(), was) || !disk.Off() {
			t.Error("P1201: a disk without power was written, or has power")
		}
	}
}

// TestNoMkfs: a disk on which nothing, or something else stands.
func TestNoMkfs(t *testing.T) {
	mountless(t, newDisk(t, 100), "a new disk")
	mountless(t, newDisk(t, 16384), "a new disk")
	d := newDisk(t, 200)
	d.Write(0, bytes.Repeat([]byte("mailbag "), 64))
	mountless(t, d, "a block that is nothing")
	l, _ := wal.Format(d)
	mountless(t, d, "a log")
	w := codec.NewWriter()
	w.Fixed([]byte("mail"), api.Block)
	for n := range 60 {
		x, _ := l.Begin()
		x.Write(n, w.Done())
		x.Commit()
	}
	l.Sync()
	mountless(t, d, "a log with something in it")
}

func mountless(t *testing.T, d *block.Disk, what string) {
	t.Helper()
	was := d.Image()
	if f, e := Mount(d); f != nil || e != api.ErrForm {
		t.Errorf("P1201: Mount of %s: %v, %v", what, f, e)
	}
	if !bytes.Equal(d.Image(), was) {
		t.Errorf("P5: Mount of %s wrote to it", what)
	}
}

// TestOneOfManyBytes: each byte of the file system's own block matters.
func TestOneOfManyBytes(t *testing.T) {
	d := newDisk(t, 100)
	made(t, d)
	own := 65
	was, _ := d.Read(own)
	for i := range api.Block {
		b := bytes.Clone(was)
		b[i] ^= 1
		d.Write(own, b)
		mountless(t, d, fmt.Sprint("an own block with another byte ", i))
	}
	d.Write(own, was)
	mounted(t, d)
	small := newDisk(t, 101)
	for n := range 100 {
		b, _ := d.Read(n)
		small.Write(n, b)
	}
	mountless(t, small, "a disk of another size")
}

// ofMkfs is the disk ahead of a Mkfs in which the power goes, and what Mount may tell then.
type ofMkfs struct {
	name string
	disk *block.Disk
	was  *tree.Tree // nil: there was nothing
}

func beforeMkfs(t *testing.T) []ofMkfs {
	used := newGround(t, 22, some[:8]...)
	used.sync()
	waits := newGround(t, 22, some[:8]...)
	waits.sync()
	was := waits.tree.Twin()
	waits.ok(create("/n"))
	junk := newDisk(t, 121)
	for n := range 121 {
		junk.Write(n, bytes.Repeat([]byte{'#'}, api.Block))
	}
	log := newDisk(t, 121)
	wal.Format(log)
	return []ofMkfs{{"a new disk", newDisk(t, 121), nil}, {"a disk of junk", junk, nil}, {"a log", log, nil},
		{"a file system", used.disk, used.tree}, {"a file system with acts that were not synced", waits.disk, was}}
}

// TestPowerInMkfs: P10: nothing to be mounted, or all that it makes, or what was there.
func TestPowerInMkfs(t *testing.T) {
	t.Parallel()
	root, _ := tree.New(22, api.MaxInodes)
	for _, c := range beforeMkfs(t) {
		seen := map[string]int{}
		for at := 1; ; at++ {
			cuts := false
			for _, picks := range kinds {
				d := c.disk.Twin()
				d.Arm(at, picks...)
				f, e := Mkfs(d)
				if e == api.OK {
					break
				}
				cuts = true
				if f != nil || e != api.ErrDown {
					t.Fatalf("P1201: Mkfs of %s, cut at %d: %v, %v", c.name, at, f, e)
				}
				d.On()
				seen[leftBehind(t, d, c, root)]++
			}
			if !cuts {
				break
			}
		}
		if seen["nothing"] == 0 || seen["the new one"] == 0 || c.was != nil && seen["the elder one"] == 0 || seen["?"] > 0 {
			t.Errorf("P10: Mkfs of %s, cut: %v", c.name, seen)
		}
	}
}

// leftBehind tells what there is behind a Mkfs that was cut; it can be made then.
func leftBehind(t *testing.T, d *block.Disk, c ofMkfs, root *tree.Tree) string {
	t.Helper()
	f, e := Mount(d)
	what := "?"
	switch {
	case e == api.ErrForm && f == nil:
		what = "nothing"
	case e != api.OK:
		t.Errorf("P10: Mount behind a Mkfs of %s that was cut: %v", c.name, e)
	case equal(f, root):
		what = "the new one"
	case c.was != nil && equal(f, c.was):
		what = "the elder one"
	}
	g := &ground{t, d, made(t, d), root.Twin(), map[int]string{}}
	g.quickly(some[:3]...)
	g.same("Mkfs behind one that was cut")
	return what
}

// equal is whether a file system has what a tree has, and as much free.
func equal(f *FS, x *tree.Tree) bool { return matches(f, f.Tree(), x) }

// matches is equal, with the file system's Tree.
func matches(f *FS, told, x *tree.Tree) bool {
	b1, i1 := f.Free()
	b2, i2 := x.Free()
	b3, i3 := told.Free()
	return tree.Same(told, x) && b1 == b2 && i1 == i2 && b3 == b2 && i3 == i2
}

// kinds are picks of many kinds.
var kinds = [][]int{nil, alike(1), alike(2), alike(-1), {0, 1, 0, 1, 0, 1, 0, 1}, {1, 0, 1, 0, 1, 0, 1}, {3, 7, 1 << 40, -9, 1, 1}}

// alike is picks that all say the same.
func alike(pick int) []int {
	all := make([]int, 200)
	for i := range all {
		all[i] = pick
	}
	return all
}
