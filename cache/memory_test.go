package cache

import (
	"bytes"
	"fmt"
	"slices"
	"testing"

	"mailbag/api"
)

// spoil changes all of l, its spare room too.
func spoil[T byte | int](l []T) {
	for i := range l[:cap(l)] {
		l[:cap(l)][i] ^= 0x5A
	}
}

func TestPutLeavesWhatItIsHanded(t *testing.T) {
	for _, isHeld := range []bool{false, true} {
		d, c := made(t, 1)
		if isHeld {
			get(c, 0)
		}
		b := append(of('A'), "room"...)[:api.Block]
		was := slices.Clone(b[:cap(b)])
		if c.Put(0, b) != api.OK || !bytes.Equal(b[:cap(b)], was) {
			t.Error("P2: Put changed what it was handed")
		}
		spoil(b)
		if get(c, 0) != "A" {
			t.Error("P2: Put kept what it was handed")
		}
		spoil(b)
		put(t, c, 0, "B")
		c.Flush()
		if get(c, 1); !bytes.Equal(b[:cap(b)], was) || disk(d, 0) != "B" {
			t.Error("P2: what was handed to Put was changed later")
		}
	}
}

func TestPutsOfOneList(t *testing.T) {
	d, c := made(t, 3)
	b := of('x')
	for n, l := range []byte("ABC") {
		copy(b, of(l))
		c.Put(n, b)
	}
	if c.Flush(); get(c, 0, 1, 2) != "ABC" || disk(d, 0, 1, 2) != "ABC" {
		t.Error("P2: one list put again and again")
	}
}

func TestGetAnswersNewMemory(t *testing.T) {
	d, c := made(t, 2)
	put(t, c, 1, "B")
	for range 2 { // a miss of block 0, then a hit
		for n, want := range []string{"a", "B"} {
			one, _ := c.Get(n)
			two, _ := c.Get(n)
			spoil(one)
			if get(c, n) != want || !bytes.Equal(two, of(want[0])) {
				t.Errorf("P2: Get(%d) answered memory that is held, or twice the same", n)
			}
		}
	}
	if c.Flush(); disk(d, 0, 1) != "aB" {
		t.Error("P2: what Get answered reached the disk")
	}
}

func TestWhatWasGotStays(t *testing.T) {
	d, c := made(t, 1)
	b, _ := c.Get(0)
	put(t, c, 0, "A")
	d.Write(0, of('X'))
	get(c, 1, 0)
	c.Drop()
	if !bytes.Equal(b, of('a')) {
		t.Error("P2: what Get answered was changed later")
	}
}

func TestListsAreNewMemory(t *testing.T) {
	_, c := made(t, 4)
	get(c, 2)
	put(t, c, 3, "D")
	put(t, c, 1, "B")
	for range 2 {
		held, dirty := c.Held(), c.Dirty()
		spoil(c.Held())
		spoil(c.Dirty())
		if fmt.Sprint(held, dirty, c.Held(), c.Dirty()) != "[1 2 3] [1 3] [1 2 3] [1 3]" {
			t.Errorf("P2: Held or Dirty answered memory of the cache: %v, %v", c.Held(), c.Dirty())
		}
	}
	held, dirty := c.Held(), c.Dirty()
	c.Drop()
	if get(c, 9); fmt.Sprint(held, dirty) != "[1 2 3] [1 3]" {
		t.Error("P2: what Held or Dirty answered was changed later")
	}
}

func TestCachesAreApart(t *testing.T) {
	d, a := made(t, 2)
	b, _ := New(d, 2)
	put(t, a, 0, "A")
	pin(t, a, 0, 1)
	if len(b.Held()) != 0 || get(b, 0, 1, 2) != "abc" || b.Unpin(0) || tell(d, b).stats() != [3]int{0, 3, 1} {
		t.Error("P7: a cache has what another one has")
	}
	if fmt.Sprint(a.Held(), a.Dirty()) != "[0 1] [0]" || tell(d, a).stats() != [3]int{1, 2, 0} || !a.Unpin(0) {
		t.Error("P7: a cache changed another one")
	}
}
