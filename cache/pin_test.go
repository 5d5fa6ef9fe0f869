package cache

import (
	"fmt"
	"math"
	"slices"
	"testing"

	"mailbag/api"
	"mailbag/block"
)

func TestUnpinAsOftenAsPin(t *testing.T) {
	for times := range 4 {
		_, c := made(t, 2)
		get(c, 0)
		for range times {
			pin(t, c, 0)
		}
		for left := times; left > 0; left-- {
			if got := gone(t, c, 5, 6); slices.Contains(got, 0) {
				t.Errorf("P302: pinned %d times more, and gone", left)
			}
			if !c.Unpin(0) {
				t.Errorf("P302: pinned %d times more, and Unpin tells false", left)
			}
		}
		if c.Unpin(0) || c.Unpin(0) {
			t.Errorf("P302: pinned %d times, and unpinned more often", times)
		}
		if got := gone(t, c, 7, 8); !slices.Contains(got, 0) {
			t.Errorf("P302: unpinned, and %v went", got)
		}
	}
}

func TestUnpinOfWhatIsNotPinned(t *testing.T) {
	_, c := made(t, 2)
	get(c, 0)
	pin(t, c, 1)
	for _, n := range []int{0, 2, 25, 26, -1, math.MinInt, math.MaxInt} {
		if c.Unpin(n) {
			t.Errorf("P302: Unpin(%d) is true", n)
		}
	}
	if pin(t, c, 0); !c.Unpin(0) || !c.Unpin(1) {
		t.Error("P302: an Unpin that was false changed something")
	}
}

func TestPinIsAsGet(t *testing.T) {
	d, c := made(t, 2)
	pin(t, c, 3)
	d.Write(3, of('X'))
	if got := get(c, 3); got != "d" || tell(d, c).stats() != [3]int{1, 1, 0} || len(c.Dirty()) != 0 {
		t.Errorf("P302: %q is held; %v", got, tell(d, c).stats())
	}
}

func TestAPinStaysWithPutAndFlush(t *testing.T) {
	_, c := made(t, 1)
	pin(t, c, 0)
	put(t, c, 0, "A")
	if c.Flush() != api.OK || get(c, 1) != "!" || get(c, 0) != "A" || !c.Unpin(0) || get(c, 1) != "b" {
		t.Error("P302: a block that is pinned, put and flushed")
	}
}

func TestAPinIsGoneWithItsBlock(t *testing.T) {
	_, c := made(t, 1)
	pin(t, c, 0)
	c.Unpin(0)
	get(c, 1, 0)
	if c.Unpin(0) || get(c, 1) != "b" {
		t.Error("P302: a block that came again is pinned")
	}
}

func TestFlush(t *testing.T) {
	d, c := made(t, 5)
	get(c, 0)
	put(t, c, 3, "DE")
	put(t, c, 1, "B")
	pin(t, c, 3)
	d.Write(9, of('J'))
	was := d.Writes()
	if e := c.Flush(); e != api.OK || d.Writes() != was+2 || d.Waiting() != 0 || disk(d, 0, 1, 3, 9) != "aBEJ" {
		t.Errorf("P302: %v, %d Writes, %d wait, the disk has %q", e, d.Writes()-was, d.Waiting(), disk(d, 0, 1, 3, 9))
	}
	if fmt.Sprint(c.Held(), c.Dirty()) != "[0 1 3] []" || get(c, 0, 1, 3) != "aBE" {
		t.Errorf("P302: %v are held, %v dirty", c.Held(), c.Dirty())
	}
	if e := c.Flush(); e != api.OK || d.Writes() != was+2 {
		t.Errorf("P302: a second Flush: %v, %d Writes", e, d.Writes()-was)
	}
	put(t, c, 0, "Z")
	if c.Flush() != api.OK || d.Writes() != was+3 || disk(d, 0) != "Z" {
		t.Error("P302: a block that is dirty again")
	}
}

func TestFlushOfNothingSyncs(t *testing.T) {
	d, c := made(t, 2)
	d.Write(5, of('X'))
	if e := c.Flush(); e != api.OK || d.Waiting() != 0 {
		t.Errorf("P302: %v, %d wait", e, d.Waiting())
	}
	d.Cut()
	if disk(d, 5) != "X" {
		t.Error("P302: Flush did not sync")
	}
}

// The Arm's picks are 1, so that the disk keeps what was written ahead of it: that tells the order.
func TestFlushThatFails(t *testing.T) {
	for n, x := range []struct{ dirty, disk string }{
		{"[1 4 7 12]", "behm"},
		{"[4 7 12]", "Behm"},
		{"[7 12]", "BEhm"},
		{"[12]", "BEHm"},
		{"[]", "BEHM"},
	} {
		d, c := made(t, 6)
		get(c, 0)
		put(t, c, 12, "M")
		put(t, c, 4, "E")
		pin(t, c, 4)
		put(t, c, 1, "B")
		put(t, c, 7, "H")
		get(c, 12)
		d.Arm(n+1, 1, 1, 1, 1)
		want := api.ErrDown
		if n == 4 {
			want = api.OK
		}
		was := tell(d, c)
		if e := c.Flush(); e != want || fmt.Sprint(c.Dirty()) != x.dirty || disk(d, 1, 4, 7, 12) != x.disk {
			t.Errorf("P302: the power goes at Write %d: %v; %v are dirty, the disk has %q", n+1, e, c.Dirty(), disk(d, 1, 4, 7, 12))
		}
		now := tell(d, c)
		if now.held != was.held || now.stats() != was.stats() || now.writes != was.writes+n {
			t.Errorf("P302: the power goes at Write %d: %s are held, %v, %d Writes", n+1, now.held, now.stats(), now.writes-was.writes)
		}
		d.On()
		if c.Flush() != api.OK || d.Writes() != was.writes+4 || disk(d, 1, 4, 7, 12) != "BEHM" || len(c.Dirty()) != 0 {
			t.Errorf("P302: the power went at Write %d: a Flush behind it: %d Writes, the disk has %q", n+1, d.Writes()-was.writes, disk(d, 1, 4, 7, 12))
		}
		if got := gone(t, c, 20, 21, 22, 23, 24, 25); fmt.Sprint(got) != "[0 1 7 12 20]" || !c.Unpin(4) || c.Unpin(4) {
			t.Errorf("P302: the power went at Write %d: %v went", n+1, got)
		}
	}
}

func TestWhatAFlushWroteIsHeldThoughTheDiskLostIt(t *testing.T) {
	d, c := made(t, 2)
	put(t, c, 0, "A")
	put(t, c, 1, "B")
	d.Arm(2)
	if c.Flush() != api.ErrDown || disk(d, 0, 1) != "ab" {
		t.Fatal("P302: Flush")
	}
	d.On()
	was := d.Writes()
	if get(c, 0, 1) != "AB" || fmt.Sprint(c.Dirty()) != "[1]" || c.Flush() != api.OK || d.Writes() != was+1 || disk(d, 0, 1) != "aB" {
		t.Errorf("P302: %v are dirty, the disk has %q", c.Dirty(), disk(d, 0, 1))
	}
}

func TestFlushWithoutPower(t *testing.T) {
	d, c := made(t, 3)
	d.Cut()
	if e := c.Flush(); e != api.ErrDown {
		t.Errorf("P302: Flush of nothing without power: %v; want down", e)
	}
	put(t, c, 1, "B")
	was := tell(d, c)
	if e := c.Flush(); e != api.ErrDown || tell(d, c) != was {
		t.Errorf("P302: Flush without power: %v; want down", e)
	}
	d.On()
	get(c, 0)
	c.Flush()
	d.Cut()
	was = tell(d, c)
	if e := c.Flush(); e != api.ErrDown || tell(d, c) != was || get(c, 0, 1) != "aB" {
		t.Errorf("P302: a Flush with nothing dirty, without power: %v; want down", e)
	}
}

func TestHeldAndDirtyAreByNumbers(t *testing.T) {
	d, _ := block.New(1024)
	c, _ := New(d, 1024)
	for i := range 1024 {
		n := i * 389 % 1024
		if n%3 == 0 {
			put(t, c, n, "x")
		} else {
			get(c, n)
		}
	}
	var held, dirty []int
	for n := range 1024 {
		held = append(held, n)
		if n%3 == 0 {
			dirty = append(dirty, n)
		}
	}
	if !slices.Equal(c.Held(), held) || !slices.Equal(c.Dirty(), dirty) {
		t.Error("P302: Held or Dirty is not by numbers")
	}
}

func TestDrop(t *testing.T) {
	d, c := made(t, 3)
	put(t, c, 0, "A")
	pin(t, c, 0, 1, 1, 2)
	put(t, c, 2, "C")
	was := tell(d, c)
	c.Drop()
	want := was
	want.held, want.dirty = "[]", "[]"
	if got := tell(d, c); got != want {
		t.Errorf("P302: behind Drop %s are held, %s dirty, %v, %d Writes", got.held, got.dirty, got.stats(), got.writes-was.writes)
	}
	if c.Unpin(0) || c.Unpin(1) || c.Unpin(2) {
		t.Error("P302: pinned behind Drop")
	}
	if get(c, 0, 1, 2, 3) != "abcd" || tell(d, c).stats() != [3]int{was.hits, was.misses + 4, was.evicted + 1} || d.Writes() != was.writes {
		t.Errorf("P302: behind Drop: %v", tell(d, c).stats())
	}
	if got := gone(t, c, 20, 21, 22); !slices.Equal(got, []int{1, 2, 3}) {
		t.Errorf("P302: behind Drop %v went", got)
	}
	c.Drop()
	c.Drop()
	if len(c.Held()) != 0 || c.Flush() != api.OK || d.Writes() != was.writes {
		t.Error("P302: Drop of nothing")
	}
}

func TestWhatWasDroppedGoesNoMore(t *testing.T) {
	d, c := made(t, 3)
	get(c, 0, 1)
	put(t, c, 2, "C")
	c.Drop()
	get(c, 3, 1, 5)
	if got := gone(t, c, 20, 21, 22); !slices.Equal(got, []int{3, 1, 5}) || tell(d, c).stats() != [3]int{0, 9, 3} || disk(d, 2) != "c" {
		t.Errorf("P302: behind Drop %v went; %v", got, tell(d, c).stats())
	}
}
