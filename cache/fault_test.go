package cache

import (
	"fmt"
	"math"
	"slices"
	"testing"

	"mailbag/api"
	"mailbag/block"
)

// call is one of the calls that may be refused, with what it hands in.
type call struct {
	name string
	do   func(c *Cache) api.Errno
}

func getOf(t *testing.T, n int) call {
	return call{fmt.Sprintf("Get(%d)", n), func(c *Cache) api.Errno {
		b, e := c.Get(n)
		if e != api.OK && len(b) != 0 {
			t.Errorf("P4: Get(%d): %v, with %d bytes", n, e, len(b))
		}
		return e
	}}
}

func putOf(n, size int) call {
	return call{fmt.Sprintf("Put(%d, of %d bytes)", n, size), func(c *Cache) api.Errno { return c.Put(n, make([]byte, size)) }}
}

func pinOf(n int) call {
	return call{fmt.Sprintf("Pin(%d)", n), func(c *Cache) api.Errno { return c.Pin(n) }}
}

// uses is each call that makes a block the one that was used last, of block n.
func uses(t *testing.T, n int) []call {
	return []call{getOf(t, n), putOf(n, api.Block), pinOf(n)}
}

// scene is a state of a cache of three blocks, with nothing that waits on its disk.
type scene struct {
	name string
	lay  func(t *testing.T, d *block.Disk, c *Cache)
}

func scenes() []scene {
	return []scene{
		{"empty", func(t *testing.T, d *block.Disk, c *Cache) {}},
		{"room", func(t *testing.T, d *block.Disk, c *Cache) { put(t, c, 1, "B"); get(c, 0) }},
		{"full", func(t *testing.T, d *block.Disk, c *Cache) { get(c, 1, 0, 2) }},
		{"dirty ahead", func(t *testing.T, d *block.Disk, c *Cache) { put(t, c, 1, "B"); get(c, 0); put(t, c, 2, "C") }},
		{"pinned ahead", func(t *testing.T, d *block.Disk, c *Cache) {
			put(t, c, 1, "B")
			pin(t, c, 1)
			get(c, 2)
			put(t, c, 0, "A")
		}},
		{"pinned ahead of dirty", func(t *testing.T, d *block.Disk, c *Cache) { pin(t, c, 2, 2); put(t, c, 0, "A"); get(c, 1) }},
		{"all pinned", func(t *testing.T, d *block.Disk, c *Cache) { pin(t, c, 2, 0, 2, 1); put(t, c, 0, "A") }},
	}
}

// rest tells what tell leaves out, and empties the cache by it: pins, what goes next, and what the disk has then.
func rest(t *testing.T, d *block.Disk, c *Cache) string {
	t.Helper()
	pins := map[int]int{}
	for n := range d.Blocks() {
		for c.Unpin(n) {
			pins[n]++
		}
	}
	went := gone(t, c, 20, 21, 22, 23, 24)
	return fmt.Sprint(pins, went, tell(d, c))
}

// refused holds a cache that a call was refused at against one at which it was not called.
func refused(t *testing.T, s scene, power string, x call, want api.Errno) {
	t.Helper()
	d, c := made(t, 3)
	s.lay(t, d, c)
	other, plain := made(t, 3)
	s.lay(t, other, plain)
	switch power {
	case "off":
		d.Cut()
	case "armed":
		d.Arm(1)
	}
	was := tell(d, c)
	if e := x.do(c); e != want {
		t.Errorf("P301: %s, %s, power %s: %v; want %v", s.name, x.name, power, e, want)
		return
	}
	if tell(d, c) != was {
		t.Errorf("P5: %s, %s, power %s: something changed", s.name, x.name, power)
	}
	d.On()
	if got, want := rest(t, d, c), rest(t, other, plain); got != want {
		t.Errorf("P5: %s, %s, power %s: what comes behind it changed", s.name, x.name, power)
	}
}

func TestWrongInputs(t *testing.T) {
	var calls []call
	for _, n := range []int{-1, 26, math.MinInt, math.MaxInt} {
		calls = append(calls, uses(t, n)...)
		calls = append(calls, putOf(n, 0))
	}
	for _, size := range []int{0, 1, api.Block - 1, api.Block + 1, 2 * api.Block} {
		calls = append(calls, putOf(1, size), putOf(9, size))
	}
	for _, s := range scenes() {
		for _, power := range []string{"on", "off"} {
			for _, x := range calls {
				refused(t, s, power, x, api.ErrArg)
			}
			refused(t, s, power, call{"Put(1, nil)", func(c *Cache) api.Errno { return c.Put(1, nil) }}, api.ErrArg)
		}
	}
}

func TestBusy(t *testing.T) {
	all := scenes()
	for _, power := range []string{"on", "off", "armed"} {
		for _, x := range uses(t, 9) {
			refused(t, all[len(all)-1], power, x, api.ErrBusy)
		}
	}
}

func TestBusyOfSizes(t *testing.T) {
	for _, size := range []int{1, 2, 26} {
		d, c := made(t, size)
		for n := range size - 1 {
			pin(t, c, n)
		}
		if size < 26 && get(c, 24, 25) != "yz" {
			t.Errorf("P301: size %d: with one that is not pinned", size)
		}
		if pin(t, c, size-1); size < 26 && (get(c, 24) != "!" || c.Pin(24) != api.ErrBusy || c.Put(24, of('x')) != api.ErrBusy) {
			t.Errorf("P301: size %d: with all pinned it is not busy", size)
		}
		for n := range size {
			if get(c, n) != string(rune('a'+n)) || c.Put(n, of('x')) != api.OK {
				t.Errorf("P301: size %d: block %d is held, and busy", size, n)
			}
		}
		if c.Unpin(size - 1); size < 26 && get(c, 24) != "y" {
			t.Errorf("P301: size %d: behind Unpin", size)
		}
		if d.Off() {
			t.Error("the power is gone")
		}
	}
}

func TestReadWithoutPower(t *testing.T) {
	all := scenes()
	for _, s := range all[:len(all)-1] {
		for _, x := range []call{getOf(t, 9), pinOf(9)} {
			refused(t, s, "off", x, api.ErrDown)
		}
	}
}

func TestWriteOfWhatGoesFails(t *testing.T) {
	for _, s := range scenes() {
		if s.name != "dirty ahead" && s.name != "pinned ahead of dirty" {
			continue
		}
		for _, x := range uses(t, 9) {
			refused(t, s, "armed", x, api.ErrDown)
		}
		refused(t, s, "off", putOf(9, api.Block), api.ErrDown)
	}
}

func TestWhatGoesCleanIsNotWritten(t *testing.T) {
	for _, x := range uses(t, 9) {
		d, c := made(t, 3)
		get(c, 1, 0)
		put(t, c, 2, "C")
		d.Arm(1)
		if e := x.do(c); e != api.OK || d.Off() || fmt.Sprint(c.Held()) != "[0 2 9]" {
			t.Errorf("P301: %s: %v; %v are held", x.name, e, c.Held())
		}
	}
}

func TestWithoutPowerHitsAreOK(t *testing.T) {
	d, c := made(t, 3)
	get(c, 0, 1)
	put(t, c, 2, "C")
	d.Cut()
	for n, want := range []string{"a", "b", "C"} {
		if get(c, n) != want || c.Pin(n) != api.OK || c.Put(n, of('n')) != api.OK || get(c, n) != "n" || !c.Unpin(n) || c.Unpin(n) {
			t.Errorf("P301: block %d is held, and there is no power", n)
		}
	}
	if got := tell(d, c); got.stats() != [3]int{12, 3, 0} || got.dirty != "[0 1 2]" || got.held != "[0 1 2]" {
		t.Errorf("P301: %v, %s are dirty of %s", got.stats(), got.dirty, got.held)
	}
	c.Drop()
	if len(c.Held()) != 0 || !d.Off() {
		t.Error("P302: Drop without power")
	}
}

func TestWithoutPowerPutIsOK(t *testing.T) {
	d, c := made(t, 2)
	get(c, 0)
	d.Cut()
	put(t, c, 1, "B")
	put(t, c, 2, "C")
	if c.Put(3, of('D')) != api.ErrDown {
		t.Error("P301: one that is dirty went without power")
	}
	if got := tell(d, c); got.stats() != [3]int{0, 3, 1} || !slices.Equal(c.Dirty(), []int{1, 2}) || get(c, 1, 2) != "BC" {
		t.Errorf("P301: %v, %s are dirty", got.stats(), got.dirty)
	}
}
