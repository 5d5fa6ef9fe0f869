package wal

import (
	"bytes"
	"fmt"
	"strings"
	"testing"

	"mailbag/api"
	"mailbag/block"
)

// own is how many of a disk's blocks are the log's own, as P401 says it.
const own = api.LogBlocks + 1

// of is a block of bytes c.
func of(c byte) []byte { return bytes.Repeat([]byte{c}, api.Block) }

// raw is a disk that keeps so many blocks; each of its blocks is of bytes c, and synced.
func raw(size int, c byte) *block.Disk {
	d, _ := block.New(own + size)
	for n := range own + size {
		d.Write(n, of(c))
	}
	d.Sync()
	return d
}

// made is a log that keeps so many blocks, on a disk that was not of bytes 0.
func made(t *testing.T, size int) (*block.Disk, *Log) {
	t.Helper()
	d := raw(size, '#')
	l, e := Format(d)
	if e != api.OK || l == nil {
		t.Fatalf("P401: Format of %d: %v", size, e)
	}
	return d, l
}

func open(t *testing.T, d *block.Disk) *Log {
	t.Helper()
	l, e := Open(d)
	if e != api.OK || l == nil {
		t.Fatalf("P401: Open: %v", e)
	}
	return l
}

// again is the log of a disk whose power went and came.
func again(t *testing.T, d *block.Disk, picks ...int) *Log {
	t.Helper()
	d.Cut(picks...)
	d.On()
	return open(t, d)
}

func begin(t *testing.T, l *Log) *Txn {
	t.Helper()
	x, e := l.Begin()
	if e != api.OK || x == nil {
		t.Fatalf("P402: Begin: %v", e)
	}
	return x
}

// write writes to the blocks from n on, one of each of letters.
func write(t *testing.T, x *Txn, n int, letters string) {
	t.Helper()
	for i, c := range []byte(letters) {
		if e := x.Write(n+i, of(c)); e != api.OK {
			t.Fatalf("P402: Write(%d, %q ..): %v", n+i, c, e)
		}
	}
}

// put commits a transaction that writes to the blocks from n on, one of each of letters.
func put(t *testing.T, l *Log, n int, letters string) {
	t.Helper()
	x := begin(t, l)
	write(t, x, n, letters)
	if e := x.Commit(); e != api.OK {
		t.Fatalf("P402: Commit: %v", e)
	}
}

func sync(t *testing.T, l *Log) {
	t.Helper()
	if e := l.Sync(); e != api.OK {
		t.Fatalf("P403: Sync: %v", e)
	}
}

// letter is a block's byte, "." for 0; "!" for what is no block of one byte, or stands beside an error.
func letter(b []byte, e api.Errno) string {
	switch {
	case e != api.OK || len(b) != api.Block || !bytes.Equal(b, of(b[0])):
		return "!"
	case b[0] == 0:
		return "."
	}
	return string(rune(b[0]))
}

// reader is a log or a transaction.
type reader interface {
	Read(n int) ([]byte, api.Errno)
}

// read is what Read tells of so many blocks from 0 on, a letter each.
func read(r reader, size int) string {
	var all strings.Builder
	for n := range size {
		all.WriteString(letter(r.Read(n)))
	}
	return all.String()
}

// state is what a log tells of all its blocks.
func state(l *Log) string { return read(l, l.Blocks()) }

// onDisk is what the disk has of the blocks behind the log's own.
func onDisk(d *block.Disk) string {
	var all strings.Builder
	for n := own; n < d.Blocks(); n++ {
		all.WriteString(letter(d.Image()[n*api.Block:(n+1)*api.Block], api.OK))
	}
	return all.String()
}

// told is all that can be told of a disk at one moment.
func told(d *block.Disk) string {
	return fmt.Sprint(d.Off(), d.Writes(), d.Waiting(), d.Image())
}

// refused checks that a call that makes a log answers that error, no log, and leaves the disk.
func refused(t *testing.T, name string, d *block.Disk, call func(*block.Disk) (*Log, api.Errno), want api.Errno) {
	t.Helper()
	was := told(d)
	if l, e := call(d); l != nil || e != want {
		t.Errorf("P401: %s of %d blocks: %v, %v; want nil, %v", name, d.Blocks(), l, e, want)
	}
	if told(d) != was {
		t.Errorf("P5: %s changed the disk, with %v", name, want)
	}
}

func TestSizes(t *testing.T) {
	for _, size := range []int{1, 2, api.LogBlocks, api.LogBlocks + 1} {
		d, _ := block.New(size)
		refused(t, "Format", d, Format, api.ErrArg)
		refused(t, "Open", d, Open, api.ErrArg)
	}
	for _, size := range []int{1, 2, 63, 64, 65, 1000, api.MaxBlocks - own} {
		d, _ := block.New(own + size)
		l, e := Format(d)
		if e != api.OK || l.Blocks() != size || l.Room() != 63 || l.Pending() != 0 {
			t.Errorf("P401: a log of %d blocks: %v", size, e)
		}
		if l, e = Open(d); e != api.OK || l.Blocks() != size || l.Room() != 63 || l.Pending() != 0 {
			t.Errorf("P401: Open of %d blocks: %v", size, e)
		}
	}
}

func TestWithoutPower(t *testing.T) {
	small, _ := block.New(own)
	never := raw(3, 0)
	d, l := made(t, 3)
	for _, d := range []*block.Disk{small, never, d} {
		d.Cut()
	}
	refused(t, "Format", small, Format, api.ErrArg)
	refused(t, "Open", small, Open, api.ErrArg)
	refused(t, "Format", never, Format, api.ErrDown)
	refused(t, "Open", never, Open, api.ErrDown)
	refused(t, "Format", d, Format, api.ErrDown)
	refused(t, "Open", d, Open, api.ErrDown)
	if l.Blocks() != 3 || l.Room() != 63 || l.Pending() != 0 {
		t.Error("P401: Blocks, Room, Pending without power")
	}
}

func TestNeverFormatted(t *testing.T) {
	for _, c := range []byte{0, 1, '#', 0xFF} {
		d := raw(3, c)
		refused(t, "Open", d, Open, api.ErrForm)
		d.Write(own, of('w'))
		d.Write(1, of('w'))
		refused(t, "Open", d, Open, api.ErrForm)
	}
}

// TestNoHead lays what is no head of this disk where the head is.
func TestNoHead(t *testing.T) {
	many := make([]int, room+1)
	behind := append(layHead(nil)[:api.Block-1:api.Block-1], 1)
	unlike := bytes.ToUpper(layHead(nil))
	unnamed := layHead([]int{1, 2})
	unnamed[len(mark)] = 1
	for i, b := range [][]byte{
		of(0), unlike, behind, unnamed, layHead([]int{3}), layHead([]int{0, 1, 2, 3}), layHead([]int{0xFFFF}), layHead(many),
		append([]byte(mark), bytes.Repeat([]byte{0xFF}, api.Block-len(mark))...),
	} {
		d, _ := made(t, 3)
		d.Write(head, b)
		d.Sync()
		t.Run(fmt.Sprint(i), func(t *testing.T) { refused(t, "Open", d, Open, api.ErrForm) })
	}
}

// TestAnyHead changes each byte of a head: what is there then is opened, or is no head.
func TestAnyHead(t *testing.T) {
	for _, h := range [][]byte{layHead(nil), layHead([]int{2, 0})} {
		for i := range h {
			for _, by := range []byte{1, 2, 0x40, 0xFF} {
				d, _ := made(t, 3)
				b := bytes.Clone(h)
				b[i] ^= by
				d.Write(head, b)
				d.Sync()
				if l, e := Open(d); e != api.ErrForm && (e != api.OK || l == nil) || e != api.OK && l != nil {
					t.Fatalf("P401: byte %d of a head: %v", i, e)
				}
			}
		}
	}
}

func TestFormatMakesZeros(t *testing.T) {
	d := raw(5, '#')
	for n := range d.Blocks() {
		d.Write(n, of('w'))
	}
	l, e := Format(d)
	if e != api.OK || state(l) != "....." || onDisk(d) != "....." {
		t.Fatalf("P401: Format: %v: %s", e, state(l))
	}
	if d.Waiting() != 0 {
		t.Error("P401: Format left what is not synced")
	}
	for _, picks := range [][]int{nil, {1, 1, 1, 1, 1, 1, 1}, {2, 1, 2, 1}} {
		if got := state(again(t, d, picks...)); got != "....." {
			t.Errorf("P401: %s behind Format", got)
		}
	}
}

func TestFormatOverALog(t *testing.T) {
	d, l := made(t, 4)
	put(t, l, 0, "abcd")
	sync(t, l)
	put(t, l, 1, "x")
	write(t, begin(t, l), 2, "y")
	l, e := Format(d)
	if e != api.OK || state(l) != "...." || l.Pending() != 0 {
		t.Fatalf("P401: Format over a log: %v, %s", e, state(l))
	}
	put(t, l, 3, "z")
	sync(t, l)
	if got := state(again(t, d)); got != "...z" {
		t.Errorf("P401: %s behind Format over a log", got)
	}
}

// TestOwnBlocks: what is kept has its places behind the log's own, in its order, once it was synced.
func TestOwnBlocks(t *testing.T) {
	const size = 130
	d, l := made(t, size)
	want := make([]byte, size)
	for n := range size {
		want[n] = byte('a' + n%26)
		put(t, l, n, string(want[n]))
	}
	sync(t, l)
	if onDisk(d) != string(want) || state(l) != string(want) {
		t.Errorf("P401: %s on the disk, %s in the log; want %s", onDisk(d), state(l), want)
	}
	if got := state(again(t, d)); got != string(want) {
		t.Errorf("P401: %s opened; want %s", got, want)
	}
}

func TestOpenTellsWhatLasted(t *testing.T) {
	d, l := made(t, 4)
	put(t, l, 0, "ab")
	sync(t, l)
	put(t, l, 1, "xyz")
	write(t, begin(t, l), 0, "w")
	l = open(t, d)
	if state(l) != "ab.." || l.Pending() != 0 || d.Waiting() != 0 {
		t.Errorf("P401: %s opened", state(l))
	}
	if x, e := l.Begin(); e != api.OK || x.Writes() != 0 {
		t.Errorf("P401: Begin behind Open: %v", e)
	}
	if got := state(again(t, d)); got != "ab.." {
		t.Errorf("P401: %s opened again", got)
	}
}

// TestOpenSyncs: what Open has told stays, also on a disk on which nothing was synced yet.
func TestOpenSyncs(t *testing.T) {
	d, l := made(t, 3)
	put(t, l, 0, "abc")
	sync(t, l)
	twin, _ := block.New(d.Blocks())
	for n := range d.Blocks() {
		b, _ := d.Read(n)
		twin.Write(n, b)
	}
	if got := state(open(t, twin)); got != "abc" || twin.Waiting() != 0 {
		t.Fatalf("P401: %s opened, and %d wait", got, twin.Waiting())
	}
	if got := state(again(t, twin)); got != "abc" {
		t.Errorf("P401: %s opened again", got)
	}
}
