package block

import (
	"bytes"
	"math"
	"strings"
	"testing"

	"mailbag/api"
)

// of is a block of bytes c.
func of(c byte) []byte { return bytes.Repeat([]byte{c}, api.Block) }

// made is a disk of so many blocks.
func made(t *testing.T, blocks int) *Disk {
	t.Helper()
	d, e := New(blocks)
	if e != api.OK || d == nil {
		t.Fatalf("P201: New(%d): %v", blocks, e)
	}
	return d
}

// put writes to block n each of letters, one behind the other.
func put(t *testing.T, d *Disk, n int, letters string) {
	t.Helper()
	for _, c := range []byte(letters) {
		if e := d.Write(n, of(c)); e != api.OK {
			t.Fatalf("P201: Write(%d, %q ..): %v", n, c, e)
		}
	}
}

// letters is an image's blocks as a byte each, and fails where a block is not of one byte alone.
func letters(t *testing.T, image []byte) string {
	t.Helper()
	if len(image)%api.Block != 0 {
		t.Fatalf("an image of %d bytes", len(image))
	}
	var told []byte
	for ; len(image) > 0; image = image[api.Block:] {
		if !bytes.Equal(image[:api.Block], of(image[0])) {
			t.Fatalf("block %d is torn", len(told))
		}
		told = append(told, image[0])
	}
	return string(told)
}

// read is what Read tells of all blocks, as letters.
func read(t *testing.T, d *Disk) string {
	t.Helper()
	var all []byte
	for n := range d.Blocks() {
		b, e := d.Read(n)
		if e != api.OK || len(b) != api.Block {
			t.Fatalf("P201: Read(%d): %d bytes, %v", n, len(b), e)
		}
		all = append(all, b...)
	}
	return letters(t, all)
}

// after is what is read of d once its power went with picks and came back; d stays as it is.
func after(t *testing.T, d *Disk, picks ...int) string {
	t.Helper()
	x := d.Twin()
	x.Cut(picks...)
	x.On()
	return read(t, x)
}

// told is all that can be told of a disk at one moment.
type told struct {
	blocks, waiting, writes int
	off                     bool
	image                   string
}

func tell(d *Disk) told {
	return told{d.Blocks(), d.Waiting(), d.Writes(), d.Off(), string(d.Image())}
}

func TestNewOfWrongSizes(t *testing.T) {
	for _, n := range []int{0, -1, api.MaxBlocks + 1, math.MinInt, math.MaxInt} {
		if d, e := New(n); e != api.ErrArg || d != nil {
			t.Errorf("P201: New(%d): %v, %v; want arg", n, d, e)
		}
	}
}

func TestNewIsEmptyWithPower(t *testing.T) {
	for _, n := range []int{1, 2, 7, api.MaxBlocks} {
		d := made(t, n)
		if tell(d) != (told{blocks: n, image: string(make([]byte, n*api.Block))}) {
			t.Errorf("P201: New(%d): %d blocks, %d wait, %d Writes, off is %v", n, d.Blocks(), d.Waiting(), d.Writes(), d.Off())
		}
		if read(t, d) != strings.Repeat("\x00", n) {
			t.Errorf("P201: New(%d): a block that is not of bytes 0", n)
		}
		put(t, d, 0, "a")
		put(t, d, n-1, "b")
	}
}

func TestDisksAreApart(t *testing.T) {
	a, b := made(t, 2), made(t, 2)
	put(t, a, 0, "x")
	a.Arm(1)
	if tell(b) != tell(made(t, 2)) || b.Write(0, of('y')) != api.OK || read(t, a) != "x\x00" {
		t.Error("P7: a disk's Write and Arm are another's")
	}
}

func TestReadTellsTheLastWrite(t *testing.T) {
	d := made(t, 3)
	for _, c := range []struct {
		n    int
		b    string
		sync bool
		want string
	}{
		{0, "a", false, "a\x00\x00"}, {0, "b", false, "b\x00\x00"}, {2, "z", true, "b\x00z"},
		{0, "cde", false, "e\x00z"}, {1, "m", false, "emz"}, {1, "m", true, "emz"}, {2, "\x00", false, "em\x00"},
	} {
		put(t, d, c.n, c.b)
		if c.sync && d.Sync() != api.OK {
			t.Fatal("P201: Sync")
		}
		if got := read(t, d); got != c.want || letters(t, d.Image()) != c.want {
			t.Errorf("P201: %q; Image %q; want %q", got, letters(t, d.Image()), c.want)
		}
	}
}

func TestABlockKeepsEachOfItsBytes(t *testing.T) {
	d := made(t, 3)
	b := make([]byte, api.Block)
	for i := range b {
		b[i] = byte(i*7 + i>>8)
	}
	want := bytes.Join([][]byte{of(0), b, of(0)}, nil)
	if d.Write(1, b) != api.OK || !bytes.Equal(d.Image(), want) {
		t.Error("P201: a block that waits is unlike what was written")
	}
	d.Sync()
	if got, e := d.Read(1); e != api.OK || !bytes.Equal(got, b) || !bytes.Equal(d.Image(), want) {
		t.Error("P201: a block that is synced is unlike what was written")
	}
}

func TestNoSuchBlock(t *testing.T) {
	d := made(t, 3)
	put(t, d, 1, "ab")
	was := tell(d)
	for _, n := range []int{-1, 3, math.MinInt, math.MaxInt, math.MaxInt / api.Block, math.MinInt / api.Block} {
		if b, e := d.Read(n); e != api.ErrArg || len(b) != 0 {
			t.Errorf("P201: Read(%d): %d bytes, %v; want arg", n, len(b), e)
		}
		if e := d.Write(n, of('x')); e != api.ErrArg {
			t.Errorf("P201: Write(%d): %v; want arg", n, e)
		}
	}
	if tell(d) != was {
		t.Error("P5: a Read or Write that was no OK changed the disk")
	}
}

func TestWriteOfOtherThanABlock(t *testing.T) {
	d := made(t, 3)
	put(t, d, 1, "ab")
	was := tell(d)
	for _, size := range []int{0, 1, api.Block - 1, api.Block + 1, 2 * api.Block} {
		if e := d.Write(1, make([]byte, size)); e != api.ErrArg {
			t.Errorf("P201: Write of %d bytes: %v; want arg", size, e)
		}
	}
	if d.Write(1, nil) != api.ErrArg || d.Write(1, of('x')[:0]) != api.ErrArg {
		t.Error("P201: Write of no bytes is no arg")
	}
	if tell(d) != was || after(t, d, 1) != "\x00a\x00" {
		t.Error("P5: a Write that was no OK changed the disk")
	}
}

func TestWaitingAndWrites(t *testing.T) {
	d := made(t, 4)
	for i, c := range []struct {
		do              func()
		waiting, writes int
	}{
		{func() {}, 0, 0},
		{func() { put(t, d, 0, "a") }, 1, 1},
		{func() { put(t, d, 0, "a") }, 2, 2},
		{func() { put(t, d, 3, "b") }, 3, 3},
		{func() { d.Read(0); d.Image(); d.Twin() }, 3, 3},
		{func() { d.Sync() }, 0, 3},
		{func() { d.Sync() }, 0, 3},
		{func() { put(t, d, 3, "cde") }, 3, 6},
		{func() { d.Write(4, of('x')); d.Write(0, nil) }, 3, 6},
		{func() { d.Cut() }, 0, 6},
		{func() { d.Write(0, of('x')) }, 0, 6},
		{func() { d.On() }, 0, 6},
		{func() { put(t, d, 1, "f") }, 1, 7},
		{func() { d.On() }, 1, 7},
	} {
		c.do()
		if d.Waiting() != c.waiting || d.Writes() != c.writes {
			t.Errorf("P201: step %d: %d wait, %d Writes; want %d, %d", i, d.Waiting(), d.Writes(), c.waiting, c.writes)
		}
	}
}

func TestSyncMakesTheLastVersionStay(t *testing.T) {
	d := made(t, 3)
	put(t, d, 0, "abc")
	put(t, d, 2, "yz")
	if d.Sync() != api.OK {
		t.Fatal("P201: Sync")
	}
	for _, p := range []int{0, 1, 2, -1} {
		if got := after(t, d, p, p, p); got != "c\x00z" {
			t.Errorf("P201: synced, and Cut of %d each: %q", p, got)
		}
	}
	put(t, d, 0, "d")
	if after(t, d) != "c\x00z" || after(t, d, 1, 1, 1) != "d\x00z" {
		t.Error("P201: versions from ahead of a Sync are told behind it")
	}
}

func TestNothingGoesWithoutPower(t *testing.T) {
	d := made(t, 3)
	put(t, d, 0, "ab")
	d.Cut(1)
	was := tell(d)
	for _, n := range []int{0, 2, 3, -1, math.MaxInt} {
		if b, e := d.Read(n); e != api.ErrDown || len(b) != 0 {
			t.Errorf("P201: Read(%d) without power: %d bytes, %v", n, len(b), e)
		}
		for _, b := range [][]byte{nil, of('x'), make([]byte, 9)} {
			if e := d.Write(n, b); e != api.ErrDown {
				t.Errorf("P201: Write(%d) of %d bytes without power: %v", n, len(b), e)
			}
		}
	}
	if e := d.Sync(); e != api.ErrDown {
		t.Errorf("P201: Sync without power: %v", e)
	}
	if tell(d) != was || !d.Off() || d.Blocks() != 3 {
		t.Error("P5: what was called without power changed the disk")
	}
	d.On()
	if read(t, d) != "a\x00\x00" {
		t.Errorf("P5: %q behind On", read(t, d))
	}
}
