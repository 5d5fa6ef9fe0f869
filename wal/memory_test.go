package wal

import (
	"bytes"
	"slices"
	"testing"

	"mailbag/api"
)

// spoil changes all of b, its spare room too.
func spoil(b []byte) {
	for i := range b[:cap(b)] {
		b[:cap(b)][i] ^= 0x5A
	}
}

func TestWriteLeavesWhatItIsHanded(t *testing.T) {
	d, l := made(t, 2)
	x := begin(t, l)
	b := append(of('a'), "room"...)[:api.Block]
	was := slices.Clone(b[:cap(b)])
	unchanged := func(name string) {
		t.Helper()
		if !bytes.Equal(b[:cap(b)], was) {
			t.Errorf("P2: %s changed what was handed to Write", name)
		}
	}
	kept := func(name string, r reader, want string) {
		t.Helper()
		spoil(b)
		if read(r, 2) != want {
			t.Errorf("P2: what was handed to Write is kept, behind %s: %s", name, read(r, 2))
		}
		spoil(b)
	}
	x.Write(0, b)
	unchanged("Write")
	kept("Write", x, "a.")
	write(t, x, 0, "c")
	unchanged("a second Write")
	x.Write(0, b)
	x.Write(1, b)
	kept("two Writes of one list", x, "aa")
	x.Commit()
	kept("Commit", l, "aa")
	put(t, l, 0, "b")
	unchanged("another Commit")
	kept("another Commit", l, "ba")
	sync(t, l)
	unchanged("Sync")
	kept("Sync", l, "ba")
	kept("Open", again(t, d), "ba")
}

func TestReadAnswersNewMemory(t *testing.T) {
	d, l := made(t, 3)
	put(t, l, 0, "a")
	sync(t, l)
	put(t, l, 1, "b")
	x := begin(t, l)
	write(t, x, 2, "c")
	spoiled := func(r reader, size int, want string) {
		t.Helper()
		for n := range size {
			one, _ := r.Read(n)
			two, _ := r.Read(n)
			spoil(one)
			if letter(two, api.OK) != want[n:n+1] || read(r, size) != want {
				t.Errorf("P2: Read(%d) answered memory that is kept, or twice the same", n)
			}
		}
	}
	spoiled(l, 3, "ab.")
	spoiled(x, 3, "abc")
	x.Commit()
	spoiled(x, 3, "abc")
	spoiled(l, 3, "abc")
	sync(t, l)
	spoiled(l, 3, "abc")
	spoiled(again(t, d), 3, "abc")
}

func TestWhatWasReadStays(t *testing.T) {
	_, l := made(t, 2)
	put(t, l, 0, "a")
	x := begin(t, l)
	write(t, x, 1, "b")
	one, _ := l.Read(0)
	two, _ := x.Read(1)
	write(t, x, 0, "AB")
	x.Commit()
	sync(t, l)
	put(t, l, 0, "xy")
	if letter(one, api.OK)+letter(two, api.OK) != "ab" {
		t.Error("P2: what Read answered was changed later")
	}
}

func TestLogsAreApart(t *testing.T) {
	_, one := made(t, 2)
	_, two := made(t, 2)
	x, y := begin(t, one), begin(t, two)
	write(t, x, 0, "a")
	write(t, y, 1, "b")
	if x.Commit(); state(one) != "a." || state(two) != ".." || two.Pending() != 0 || y.Writes() != 1 {
		t.Error("P7: a log has what another one has")
	}
	if y.Abort(); state(one) != "a." || one.Pending() != 1 {
		t.Error("P7: a log changed another one")
	}
}
