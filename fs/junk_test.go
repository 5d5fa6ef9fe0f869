package fs

import (
	"bytes"
	"math/rand/v2"
	"testing"

	"mailbag/api"
	"mailbag/block"
	"mailbag/codec"
	"mailbag/dir"
	"mailbag/inode"
	"mailbag/tree"
)

// used calls all of a file system, of which nothing is promised but that each call ends.
func used(f *FS) {
	ops := append([]tree.Op{create("/n"), grow("/n", 8192), grow("/k", 8192), grow("/k", 9000), mkdir("/m"), create("/a/n"), rename("/a/f", "/m/f"), rename("/k", "/a/b/g"), rename("/e", "/m"), rename("/a", "/m/a"), cut("/k", 5), unlink("/k"), unlink("/a/f"), rmdir("/e")}, some...)
	for _, s := range []string{"/", "/a", "/k", "/a/f", "/a/b", "/a/b/g", "/e", "/a/a/a/a/a/a/a/a"} {
		f.Stat(s)
		f.Get(s)
		f.List(s)
		if fd, e := f.Open(s); e == api.OK {
			f.Read(fd, 0, 1<<20)
			f.Append(fd, []byte("x"))
			f.Fsync(fd)
		}
		ops = append(ops, cut(s, 1), cut(s, 0), grow(s, 700), rename(s, "/z"), unlink(s), rmdir(s))
	}
	for i, o := range ops {
		f.Do(o)
		if i%8 == 0 {
			f.Free()
			f.Tree()
		}
	}
	f.Sync()
	for fd := range api.MaxOpen {
		f.Close(fd)
	}
}

// TestJunk: P1: blocks that are others than a file system has left them.
func TestJunk(t *testing.T) {
	t.Parallel()
	g := newGround(t, 60, some...)
	g.fill("/e", 0, 20)
	g.sync()
	dice := rand.New(rand.NewPCG(1, 12))
	for range 120 {
		d := g.disk.Twin()
		for range 1 + dice.IntN(3) {
			n := 65 + dice.IntN(d.Blocks()-65)
			if dice.IntN(2) == 0 {
				n = 66 + dice.IntN(6)
			}
			b, _ := d.Read(n)
			switch dice.IntN(4) {
			case 0:
				b, _ = d.Read(65 + dice.IntN(40))
			case 1:
				b = make([]byte, api.Block)
			case 2:
				b[dice.IntN(api.Block)] ^= byte(1 + dice.IntN(255))
			case 3:
				b = bytes.Repeat([]byte{byte(dice.IntN(256))}, api.Block)
			}
			d.Write(n, b)
		}
		if f, e := Mount(d); e == api.OK {
			used(f)
		}
	}
}

// TestJunkWithSums: P1: inodes and slots whose sums are right, but that no call makes: directories in themselves,
// names of inodes that are free, or that there are not, sizes without blocks, blocks that are no data blocks.
func TestJunkWithSums(t *testing.T) {
	t.Parallel()
	g := newGround(t, 60, some...)
	g.sync()
	dice := rand.New(rand.NewPCG(2, 12))
	numbers := []int{0, 1, 33, 34, 35, 36, 40, 93, 94, 1 << 20, 1<<32 - 1}
	sizes := []int{0, 1, 511, 512, 1024, 4096, 4097, 70000, inode.Most()}
	for range 120 {
		d := g.disk.Twin()
		for range 1 + dice.IntN(4) {
			at, from := place(dice.IntN(12))
			b, _ := d.Read(65 + at)
			n := inode.Node{Kind: dice.IntN(3), Links: dice.IntN(3), Size: sizes[dice.IntN(len(sizes))], One: numbers[dice.IntN(len(numbers))], Two: numbers[dice.IntN(len(numbers))]}
			for i := range n.Direct {
				n.Direct[i] = numbers[dice.IntN(len(numbers))]
			}
			copy(b[from:], inode.Encode(n))
			d.Write(65+at, b)
		}
		withSlots(d, dice)
		if f, e := Mount(d); e == api.OK {
			used(f)
		}
	}
}

// withSlots makes blocks directories' ones, whose names lead anywhere.
func withSlots(d *block.Disk, dice *rand.Rand) {
	for range dice.IntN(4) {
		s := make(dir.Slots, 8)
		for i, name := range []string{"a", "b", "e", "f", "g", "k", "a", "f"} {
			s[i] = dir.Entry{Name: name, Inode: []int{1, 2, 3, 4, 5, 200, 255, 256, 65535}[dice.IntN(9)]}
		}
		d.Write(65+34+dice.IntN(8), s.Bytes())
	}
}

// TestLoop: directories one in another, round and round.
func TestLoop(t *testing.T) {
	g := newGround(t, 60, mkdir("/a"), mkdir("/a/a"))
	g.sync()
	s := make(dir.Slots, 8)
	s[0] = dir.Entry{Name: "a", Inode: 1}
	for n := range 60 {
		if b, _ := g.disk.Read(99 + n); !bytes.Equal(b, make([]byte, api.Block)) {
			g.disk.Write(99+n, s.Bytes())
		}
	}
	f := mounted(t, g.disk)
	if info, e := f.Stat("/a/a/a/a/a/a/a/a"); !info.Dir || e != api.OK {
		t.Fatalf("there is no loop: %v", e)
	}
	if f.Tree() != nil {
		t.Error("P1: a Tree of a loop")
	}
	used(f)
}

// TestInodesThatThereAreNot: P1: slots name inodes behind the last one, and there stand bytes that are inodes.
func TestInodesThatThereAreNot(t *testing.T) {
	for _, i := range []int{255, 256, 257, 264, 270, 271, 400} {
		g := newGround(t, 60, mkdir("/a"), create("/a/k"), grow("/a/k", 5000))
		g.sync()
		for n := range 60 {
			g.disk.Write(98+n, bytes.Repeat(inode.Encode(inode.Node{Kind: 1 + n%2, Links: 1}), 8))
		}
		g.disk.Write(99, dir.Slots{{Name: "a", Inode: i}, {Name: "k", Inode: 1}}.Bytes())
		f := mounted(t, g.disk)
		if info, e := f.Stat("/a"); i > 255 && (e != api.ErrForm || info != (tree.Info{})) {
			t.Errorf("P1: Stat of inode %d: %v, %v", i, info, e)
		}
		used(f)
	}
}

// TestMapThatIsWrong: P1: more blocks are free, by the map, than there are beside those that are in use.
func TestMapThatIsWrong(t *testing.T) {
	t.Parallel()
	g := groundOf(t, 16384, create("/f"))
	g.bears("/f", 200*512)
	g.sync()
	for n := range 4 {
		g.disk.Write(98+n, make([]byte, api.Block))
	}
	f := mounted(t, g.disk)
	if f.Tree() != nil {
		t.Error("P1: a Tree with more blocks than there may be")
	}
	used(f)
}

// TestOnAgain: P10, P1: a file system whose disk's power went, and that goes on without Mount.
func TestOnAgain(t *testing.T) {
	t.Parallel()
	for at := 1; at < 60; at += 5 {
		for _, picks := range kinds[1:5] {
			g := newGround(t, 60, some...)
			g.sync()
			g.fill("/a", 0, 20)
			g.quickly(unlink("/k"), rename("/a/f", "/k"), grow("/k", 5000))
			g.disk.Arm(at, picks...)
			g.fs.Sync()
			g.disk.On()
			used(g.fs)
		}
	}
}

// TestMountedTwice: P1: two file systems over one disk, by turns.
func TestMountedTwice(t *testing.T) {
	g := newGround(t, 60, some...)
	g.sync()
	other := mounted(t, g.disk)
	used(g.fs)
	used(other)
	used(g.fs)
}

// TestMountOfAllBytes: P1: heads and own blocks of many kinds.
func TestMountOfAllBytes(t *testing.T) {
	dice := rand.New(rand.NewPCG(3, 12))
	for range 300 {
		d := newDisk(t, 110)
		for n := range 110 {
			b := make([]byte, api.Block)
			for i := range b {
				b[i] = byte(dice.IntN(256))
			}
			d.Write(n, codec.Seal(b[:api.Block-4]))
		}
		if f, e := Mount(d); f != nil || e != api.ErrForm {
			t.Fatalf("P1201: Mount of junk: %v", e)
		}
	}
}
