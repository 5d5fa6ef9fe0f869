package cache

import (
	"bytes"
	"fmt"
	"math"
	"slices"
	"testing"

	"mailbag/api"
	"mailbag/block"
)

// of is a block of bytes c.
func of(c byte) []byte { return bytes.Repeat([]byte{c}, api.Block) }

// made is a cache of so many blocks over a disk of 26, of which each is of its own letter, "a" to "z", and synced.
func made(t *testing.T, size int) (*block.Disk, *Cache) {
	t.Helper()
	d, _ := block.New(26)
	for n := range 26 {
		d.Write(n, of(byte('a'+n)))
	}
	d.Sync()
	c, e := New(d, size)
	if e != api.OK || c == nil {
		t.Fatalf("P301: New of size %d: %v", size, e)
	}
	return d, c
}

// get is what Get tells of each of ns, a letter each; "!" where it tells an error or no block of one letter.
func get(c *Cache, ns ...int) string {
	var all []byte
	for _, n := range ns {
		b, e := c.Get(n)
		if e != api.OK || len(b) != api.Block || !bytes.Equal(b, of(b[0])) {
			b = []byte{'!'}
		}
		all = append(all, b[0])
	}
	return string(all)
}

// disk is what the disk has of each of ns, a letter each.
func disk(d *block.Disk, ns ...int) string {
	var all []byte
	for _, n := range ns {
		all = append(all, d.Image()[n*api.Block])
	}
	return string(all)
}

// put puts to block n a block of each of letters, one behind the other.
func put(t *testing.T, c *Cache, n int, letters string) {
	t.Helper()
	for _, l := range []byte(letters) {
		if e := c.Put(n, of(l)); e != api.OK {
			t.Fatalf("P301: Put(%d, %q ..): %v", n, l, e)
		}
	}
}

func pin(t *testing.T, c *Cache, ns ...int) {
	t.Helper()
	for _, n := range ns {
		if e := c.Pin(n); e != api.OK {
			t.Fatalf("P302: Pin(%d): %v", n, e)
		}
	}
}

// told is all that can be told of a cache and its disk at one moment, but what goes next.
type told struct {
	held, dirty           string
	hits, misses, evicted int
	image                 string
	writes, waiting       int
}

func tell(d *block.Disk, c *Cache) told {
	x := told{held: fmt.Sprint(c.Held()), dirty: fmt.Sprint(c.Dirty())}
	x.hits, x.misses, x.evicted = c.Stats()
	x.image, x.writes, x.waiting = string(d.Image()), d.Writes(), d.Waiting()
	return x
}

// gone is which blocks go, one behind the other, when each of fresh, none of which is held, is got.
func gone(t *testing.T, c *Cache, fresh ...int) []int {
	t.Helper()
	var went []int
	for _, f := range fresh {
		was := c.Held()
		if get(c, f) == "!" {
			t.Fatalf("P301: Get(%d) is an error", f)
		}
		for _, n := range was {
			if !slices.Contains(c.Held(), n) {
				went = append(went, n)
			}
		}
	}
	return went
}

func (x told) stats() [3]int { return [3]int{x.hits, x.misses, x.evicted} }

func TestNewOfWrongSizes(t *testing.T) {
	d, _ := block.New(4)
	for _, size := range []int{0, -1, 1025, math.MinInt, math.MaxInt} {
		if c, e := New(d, size); e != api.ErrArg || c != nil {
			t.Errorf("P301: New of size %d: %v; want arg", size, e)
		}
	}
}

func TestNewHoldsNothing(t *testing.T) {
	for _, off := range []bool{false, true} {
		d, _ := block.New(4)
		if off {
			d.Cut()
		}
		for _, size := range []int{1, 2, 5, 1024} {
			c, e := New(d, size)
			if e != api.OK || len(c.Held()) != 0 || len(c.Dirty()) != 0 || tell(d, c).stats() != [3]int{} {
				t.Errorf("P301: New of size %d, off is %v: %v", size, off, e)
			}
		}
	}
}

func TestSizesAreHeldInFull(t *testing.T) {
	for _, size := range []int{1, 2, 3, 1024} {
		d, _ := block.New(size + 2)
		c, _ := New(d, size)
		for n := range size {
			if _, e := c.Get(n); e != api.OK || len(c.Held()) != n+1 {
				t.Fatalf("P301: size %d, Get(%d): %v, %d are held", size, n, e, len(c.Held()))
			}
		}
		if got := gone(t, c, size, size+1); !slices.Equal(got, []int{0, 1}) {
			t.Errorf("P301: size %d: %v went", size, got)
		}
		if got := tell(d, c).stats(); got != [3]int{0, size + 2, 2} || len(c.Held()) != size {
			t.Errorf("P301: size %d: %v, %d are held", size, got, len(c.Held()))
		}
	}
}

func TestACacheOfMoreThanItsDisk(t *testing.T) {
	d, _ := block.New(1)
	c, _ := New(d, 3)
	if get(c, 0, 0, 1) != "\x00\x00!" || tell(d, c).stats() != [3]int{1, 1, 0} {
		t.Error("P301: a cache of a disk of one block")
	}
}

func TestHitsAndMisses(t *testing.T) {
	_, c := made(t, 2)
	for i, x := range []struct {
		do    func() api.Errno
		stats [3]int
	}{
		{func() api.Errno { _, e := c.Get(0); return e }, [3]int{0, 1, 0}},
		{func() api.Errno { _, e := c.Get(0); return e }, [3]int{1, 1, 0}},
		{func() api.Errno { return c.Put(0, of('A')) }, [3]int{2, 1, 0}},
		{func() api.Errno { return c.Put(1, of('B')) }, [3]int{2, 2, 0}},
		{func() api.Errno { return c.Put(1, of('B')) }, [3]int{3, 2, 0}},
		{func() api.Errno { return c.Pin(1) }, [3]int{4, 2, 0}},
		{func() api.Errno { return c.Pin(2) }, [3]int{4, 3, 1}},
		{func() api.Errno { return c.Pin(2) }, [3]int{5, 3, 1}},
		{func() api.Errno { c.Unpin(1); c.Unpin(2); c.Unpin(2); c.Unpin(2); return api.OK }, [3]int{5, 3, 1}},
		{func() api.Errno { return c.Flush() }, [3]int{5, 3, 1}},
		{func() api.Errno { return c.Put(3, of('D')) }, [3]int{5, 4, 2}},
		{func() api.Errno { _, e := c.Get(4); return e }, [3]int{5, 5, 3}},
		{func() api.Errno { c.Drop(); return api.OK }, [3]int{5, 5, 3}},
		{func() api.Errno { _, e := c.Get(4); return e }, [3]int{5, 6, 3}},
	} {
		e := x.do()
		if h, m, v := c.Stats(); e != api.OK || [3]int{h, m, v} != x.stats {
			t.Errorf("P301: call %d: %v, %d hits, %d misses, %d evicted; want %v", i, e, h, m, v, x.stats)
		}
	}
}

func TestGetTellsWhatIsHeld(t *testing.T) {
	d, c := made(t, 3)
	if get(c, 0, 1) != "ab" {
		t.Error("P301: a miss is unlike the disk")
	}
	d.Write(0, of('X'))
	put(t, c, 1, "BC")
	put(t, c, 2, "D")
	if got := get(c, 0, 1, 2); got != "aCD" || disk(d, 0, 1, 2) != "Xbc" {
		t.Errorf("P301: %q is held, the disk has %q", got, disk(d, 0, 1, 2))
	}
	c.Drop()
	if got := get(c, 0, 1, 2); got != "Xbc" {
		t.Errorf("P301: %q behind Drop", got)
	}
}

func TestABlockKeepsEachOfItsBytes(t *testing.T) {
	d, c := made(t, 1)
	b := make([]byte, api.Block)
	for i := range b {
		b[i] = byte(i*7 + i>>8)
	}
	if c.Put(3, b) != api.OK {
		t.Fatal("P301: Put")
	}
	if got, e := c.Get(3); e != api.OK || !bytes.Equal(got, b) {
		t.Error("P301: what is held is unlike what was put")
	}
	get(c, 4)
	if got, _ := d.Read(3); !bytes.Equal(got, b) {
		t.Error("P301: what was written is unlike what was put")
	}
	if got, e := c.Get(3); e != api.OK || !bytes.Equal(got, b) {
		t.Error("P301: what is held again is unlike what was put")
	}
}

func TestPutWritesNothingYet(t *testing.T) {
	d, c := made(t, 2)
	was := d.Writes()
	put(t, c, 1, "AB")
	put(t, c, 0, "C")
	if d.Writes() != was || fmt.Sprint(c.Dirty(), c.Held()) != "[0 1] [0 1]" {
		t.Errorf("P301: %d Writes; %v are dirty of %v", d.Writes()-was, c.Dirty(), c.Held())
	}
}

func TestPutOfTheSameBytesIsDirty(t *testing.T) {
	_, c := made(t, 2)
	get(c, 0)
	put(t, c, 0, "a")
	if fmt.Sprint(c.Dirty()) != "[0]" {
		t.Errorf("P301: %v are dirty", c.Dirty())
	}
}

func TestTheOneUsedLeastLatelyGoes(t *testing.T) {
	for name, x := range map[string]struct {
		do   func(c *Cache)
		want []int
	}{
		"nothing":           {func(c *Cache) {}, []int{0, 1, 2, 3}},
		"Get of the first":  {func(c *Cache) { c.Get(0) }, []int{1, 2, 3, 0}},
		"Get of a middle":   {func(c *Cache) { c.Get(2) }, []int{0, 1, 3, 2}},
		"Get of the last":   {func(c *Cache) { c.Get(3) }, []int{0, 1, 2, 3}},
		"Get of all":        {func(c *Cache) { get(c, 3, 1, 0, 2) }, []int{3, 1, 0, 2}},
		"Get, again":        {func(c *Cache) { get(c, 0, 1, 0, 2, 0) }, []int{3, 1, 2, 0}},
		"Put of the first":  {func(c *Cache) { c.Put(0, of('x')) }, []int{1, 2, 3, 0}},
		"Put of a middle":   {func(c *Cache) { c.Put(1, of('x')) }, []int{0, 2, 3, 1}},
		"Put of the last":   {func(c *Cache) { c.Put(3, of('x')) }, []int{0, 1, 2, 3}},
		"Pin, Unpin":        {func(c *Cache) { c.Pin(0); c.Pin(1); c.Unpin(1); c.Unpin(0) }, []int{2, 3, 0, 1}},
		"Unpin is no use":   {func(c *Cache) { c.Pin(0); c.Get(1); c.Unpin(0) }, []int{2, 3, 0, 1}},
		"Unpin of unpinned": {func(c *Cache) { c.Unpin(0) }, []int{0, 1, 2, 3}},
		"Flush is no use":   {func(c *Cache) { c.Put(0, of('x')); c.Get(1); c.Flush() }, []int{2, 3, 0, 1}},
		"tellers":           {func(c *Cache) { c.Held(); c.Dirty(); c.Stats() }, []int{0, 1, 2, 3}},
		"Put of one more":   {func(c *Cache) { c.Put(4, of('x')) }, []int{1, 2, 3, 4}},
		"Pin of one more":   {func(c *Cache) { c.Pin(4); c.Unpin(4) }, []int{1, 2, 3, 4}},
		"one that was gone": {func(c *Cache) { c.Get(4); c.Get(0) }, []int{2, 3, 4, 0}},
	} {
		_, c := made(t, 4)
		get(c, 0, 1, 2, 3)
		x.do(c)
		if got := gone(t, c, 20, 21, 22, 23); !slices.Equal(got, x.want) {
			t.Errorf("P301: %s: %v went; want %v", name, got, x.want)
		}
		if fmt.Sprint(c.Held()) != "[20 21 22 23]" {
			t.Errorf("P301: %s: %v are held", name, c.Held())
		}
	}
}

func TestPinnedOnesStay(t *testing.T) {
	for _, x := range []struct{ pinned, want []int }{
		{[]int{0}, []int{1, 2, 3, 20}},
		{[]int{1}, []int{0, 2, 3, 20}},
		{[]int{3}, []int{0, 1, 2, 20}},
		{[]int{0, 1, 3}, []int{2, 20, 21, 22}},
		{[]int{0, 2}, []int{1, 3, 20, 21}},
	} {
		_, c := made(t, 4)
		get(c, 0, 1, 2, 3)
		pin(t, c, x.pinned...)
		for _, n := range []int{0, 1, 2, 3} {
			if !slices.Contains(x.pinned, n) {
				get(c, n)
			}
		}
		if got := gone(t, c, 20, 21, 22, 23); !slices.Equal(got, x.want) {
			t.Errorf("P301: with %v pinned %v went; want %v", x.pinned, got, x.want)
		}
	}
}

func TestADirtyOneIsWrittenWhenItGoes(t *testing.T) {
	for name, more := range map[string]func(c *Cache) api.Errno{
		"Get": func(c *Cache) api.Errno { _, e := c.Get(9); return e },
		"Put": func(c *Cache) api.Errno { return c.Put(9, of('J')) },
		"Pin": func(c *Cache) api.Errno { return c.Pin(9) },
	} {
		d, c := made(t, 3)
		put(t, c, 1, "BC")
		get(c, 0)
		put(t, c, 2, "D")
		was := d.Writes()
		if e := more(c); e != api.OK || d.Writes() != was+1 || d.Waiting() != 1 || disk(d, 0, 1, 2, 9) != "aCcj" {
			t.Errorf("P301: %s: %v, %d Writes, %d wait, the disk has %q", name, e, d.Writes()-was, d.Waiting(), disk(d, 0, 1, 2, 9))
		}
		if fmt.Sprint(c.Held()) != "[0 2 9]" || slices.Contains(c.Dirty(), 1) || !slices.Contains(c.Dirty(), 2) {
			t.Errorf("P301: %s: %v are held, %v dirty", name, c.Held(), c.Dirty())
		}
		if get(c, 10); d.Writes() != was+1 {
			t.Errorf("P301: %s: a clean one was written when it went", name)
		}
		if got := get(c, 1); got != "C" || slices.Contains(c.Dirty(), 1) {
			t.Errorf("P301: %s: %q is got again; %v are dirty", name, got, c.Dirty())
		}
	}
}

func TestOneThatIsDirtyAndPinnedIsNotWritten(t *testing.T) {
	d, c := made(t, 2)
	put(t, c, 0, "A")
	pin(t, c, 0)
	put(t, c, 1, "B")
	was := d.Writes()
	if got := gone(t, c, 2, 3); !slices.Equal(got, []int{1, 2}) || d.Writes() != was+1 || disk(d, 0, 1) != "aB" {
		t.Errorf("P301: %v went, the disk has %q", got, disk(d, 0, 1))
	}
	if fmt.Sprint(c.Dirty()) != "[0]" || get(c, 0) != "A" {
		t.Errorf("P301: %v are dirty", c.Dirty())
	}
}
