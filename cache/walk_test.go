package cache

import (
	"bytes"
	"fmt"
	"math/rand/v2"
	"slices"
	"testing"

	"mailbag/api"
	"mailbag/block"
)

// plain is a cache that is told without pointers and maps: a list by use, the one that was used least lately first.
type plain struct {
	disk                  *block.Disk
	size                  int
	list                  []slot
	hits, misses, evicted int
}

type slot struct {
	n, pins int
	dirty   bool
	letter  byte
}

func (p *plain) at(n int) int {
	return slices.IndexFunc(p.list, func(s slot) bool { return s.n == n })
}

// use tells where block n is in the list: at its end, once it was used.
func (p *plain) use(n int, read bool) (int, api.Errno) {
	if n < 0 || n >= p.disk.Blocks() {
		return 0, api.ErrArg
	}
	if i := p.at(n); i >= 0 {
		p.hits++
		s := p.list[i]
		p.list = append(slices.Delete(p.list, i, i+1), s)
		return len(p.list) - 1, api.OK
	}
	goes := slices.IndexFunc(p.list, func(s slot) bool { return s.pins == 0 })
	full := len(p.list) == p.size
	if full && goes < 0 {
		return 0, api.ErrBusy
	}
	s := slot{n: n}
	if read {
		b, e := p.disk.Read(n)
		if e != api.OK {
			return 0, e
		}
		s.letter = b[0]
	}
	if full {
		if v := p.list[goes]; v.dirty {
			if e := p.disk.Write(v.n, of(v.letter)); e != api.OK {
				return 0, e
			}
		}
		p.list = slices.Delete(p.list, goes, goes+1)
		p.evicted++
	}
	p.misses++
	p.list = append(p.list, s)
	return len(p.list) - 1, api.OK
}

func (p *plain) get(n int) string {
	i, e := p.use(n, true)
	if e != api.OK {
		return fmt.Sprint([]byte(nil), e)
	}
	return fmt.Sprint(of(p.list[i].letter), e)
}

func (p *plain) put(n int, letter byte) string {
	i, e := p.use(n, false)
	if e == api.OK {
		p.list[i].letter, p.list[i].dirty = letter, true
	}
	return fmt.Sprint(e)
}

func (p *plain) pin(n int) string {
	i, e := p.use(n, true)
	if e == api.OK {
		p.list[i].pins++
	}
	return fmt.Sprint(e)
}

func (p *plain) unpin(n int) string {
	i := p.at(n)
	if i < 0 || p.list[i].pins == 0 {
		return "false"
	}
	p.list[i].pins--
	return "true"
}

func (p *plain) flush() string {
	for n := range p.disk.Blocks() {
		if i := p.at(n); i >= 0 && p.list[i].dirty {
			if e := p.disk.Write(n, of(p.list[i].letter)); e != api.OK {
				return fmt.Sprint(e)
			}
			p.list[i].dirty = false
		}
	}
	return fmt.Sprint(p.disk.Sync())
}

// tell is as the tests' tell.
func (p *plain) tell() told {
	held, dirty := []int{}, []int{}
	for n := range p.disk.Blocks() {
		if i := p.at(n); i >= 0 {
			held = append(held, n)
			if p.list[i].dirty {
				dirty = append(dirty, n)
			}
		}
	}
	return told{fmt.Sprint(held), fmt.Sprint(dirty), p.hits, p.misses, p.evicted, string(p.disk.Image()), p.disk.Writes(), p.disk.Waiting()}
}

// step makes one call, of the kind that dice say, on both, and tells what they answered.
func step(dice *rand.Rand, c *Cache, p *plain) (name, got, want string) {
	n, letter := dice.IntN(p.disk.Blocks()+2)-1, byte('A'+dice.IntN(26))
	switch kind := dice.IntN(100); {
	case kind < 30:
		b, e := c.Get(n)
		return fmt.Sprint("Get ", n), fmt.Sprint(b, e), p.get(n)
	case kind < 55:
		return fmt.Sprint("Put ", n), fmt.Sprint(c.Put(n, bytes.Repeat([]byte{letter}, api.Block))), p.put(n, letter)
	case kind < 68:
		return fmt.Sprint("Pin ", n), fmt.Sprint(c.Pin(n)), p.pin(n)
	case kind < 84:
		return fmt.Sprint("Unpin ", n), fmt.Sprint(c.Unpin(n)), p.unpin(n)
	case kind < 88:
		return "Flush", fmt.Sprint(c.Flush()), p.flush()
	case kind < 89:
		c.Drop()
		p.list = nil
		return "Drop", "", ""
	case kind < 92:
		at, pick := 1+dice.IntN(4), dice.IntN(3)
		c.disk.Arm(at, pick, pick)
		p.disk.Arm(at, pick, pick)
		return "Arm", "", ""
	case kind < 93:
		c.disk.Cut()
		p.disk.Cut()
		return "Cut", "", ""
	}
	c.disk.On()
	p.disk.On()
	return "On", "", ""
}

func TestWalks(t *testing.T) {
	for _, size := range []int{1, 2, 3, 5, 9} {
		for seed := range uint64(30) {
			d, _ := block.New(7)
			c, _ := New(d, size)
			p := &plain{disk: d.Twin(), size: size}
			dice := rand.New(rand.NewPCG(seed, uint64(size)))
			for i := range 300 {
				name, got, want := step(dice, c, p)
				if got != want || tell(d, c) != p.tell() {
					t.Fatalf("P301, P302: size %d, walk %d, call %d, %s: unlike a plain list by use", size, seed, i, name)
				}
			}
		}
	}
}
