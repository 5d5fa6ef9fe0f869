package dir

import (
	"bytes"
	"fmt"
	"maps"
	"math/rand/v2"
	"slices"
	"testing"

	"mailbag/api"
)

// plain is a directory told by its names: where each stands, and its inode.
type plain struct {
	place, inode map[string]int
	n            int
}

// free is the least place that no name has.
func (p *plain) free() int {
	used := slices.Sorted(maps.Values(p.place))
	for i, place := range used {
		if i != place {
			return i
		}
	}
	return len(used)
}

// put tells how many bytes there are more.
func (p *plain) put(name string, inode int) (int, api.Errno) {
	_, there := p.place[name]
	switch {
	case !Name(name):
		return 0, api.ErrName
	case inode < 1 || inode > 65535:
		return 0, api.ErrArg
	case there:
		return 0, api.ErrExists
	}
	p.place[name], p.inode[name] = p.free(), inode
	if p.place[name] < p.n {
		return 0, api.OK
	}
	p.n++
	if p.n%8 == 1 {
		return 512, api.OK
	}
	return 0, api.OK
}

func (p *plain) take(name string) (int, api.Errno) {
	inode, there := p.inode[name]
	if !there {
		return 0, api.ErrNone
	}
	delete(p.place, name)
	delete(p.inode, name)
	return inode, api.OK
}

func (p *plain) move(old, name string) api.Errno {
	place, there := p.place[old]
	_, taken := p.place[name]
	switch {
	case !there:
		return api.ErrNone
	case !Name(name):
		return api.ErrName
	case taken && name != old:
		return api.ErrExists
	}
	inode, _ := p.take(old)
	p.place[name], p.inode[name] = place, inode
	return api.OK
}

func (p *plain) slots() Slots {
	s := make(Slots, p.n)
	for name, place := range p.place {
		s[place] = Entry{Name: name, Inode: p.inode[name]}
	}
	return s
}

// alike holds all that slots tell against the plain directory.
func alike(t *testing.T, s Slots, p *plain, names []string) {
	t.Helper()
	want := p.slots()
	if !slices.Equal(s, want) {
		t.Fatalf("P902: slots are %v; want %v", s, want)
	}
	if !bytes.Equal(s.Bytes(), whole(want)) {
		t.Fatalf("P902: Bytes of %v: %x; want %x", s, s.Bytes(), whole(want))
	}
	reads(t, s.Bytes(), padded(want), api.OK)
	named(t, s, slices.Sorted(maps.Keys(p.place))...)
	for _, name := range names {
		inode, there := p.inode[name]
		finds(t, s, name, inode, there)
	}
}

// step does one of the calls to both; the slots behind it.
func step(t *testing.T, dice *rand.Rand, s Slots, p *plain, names []string) Slots {
	t.Helper()
	name, other := names[dice.IntN(len(names))], names[dice.IntN(len(names))]
	inode := dice.IntN(65540) - 2
	var next Slots
	var call string
	var got, want int
	var e, err api.Errno
	switch dice.IntN(5) {
	case 0, 1:
		call = "Put"
		next, got, e = s.Put(name, inode)
		want, err = p.put(name, inode)
	case 2, 3:
		call = "Take"
		next, got, e = s.Take(name)
		want, err = p.take(name)
	case 4:
		call = "Move"
		next, e = s.Move(name, other)
		err = p.move(name, other)
	}
	if got != want || e != err {
		t.Fatalf("P902: %s of %q, %q, %d in %v: %d, %v; want %d, %v", call, name, other, inode, s, got, e, want, err)
	}
	if e != api.OK {
		return s
	}
	return next
}

// TestWalks goes on from what was told last; now and then by way of its bytes.
func TestWalks(t *testing.T) {
	for seed := range uint64(40) {
		dice := rand.New(rand.NewPCG(seed, 9))
		names := []string{"", ".", "a/b", letters(49)}
		for range 1 + dice.IntN(30) {
			names = append(names, randomName(dice))
		}
		p := &plain{place: map[string]int{}, inode: map[string]int{}}
		var s Slots
		for range 300 {
			was := slices.Clone(s)
			next := step(t, dice, s, p, names)
			stays(t, s, was)
			s = next
			alike(t, s, p, names)
			if dice.IntN(20) == 0 {
				s, _ = Read(s.Bytes())
				p.n = len(s)
			}
		}
	}
}

// TestManyTold keeps all that was told on a walk: nothing that is done later is seen in it.
func TestManyTold(t *testing.T) {
	dice := rand.New(rand.NewPCG(3, 9))
	var names []string
	for i := range 20 {
		names = append(names, fmt.Sprint("n", i))
	}
	p := &plain{place: map[string]int{}, inode: map[string]int{}}
	told, copies := []Slots{nil}, []Slots{nil}
	for range 500 {
		next := step(t, dice, told[len(told)-1], p, names)
		told, copies = append(told, next), append(copies, slices.Clone(next))
	}
	for i := range told {
		stays(t, told[i], copies[i])
	}
}

// TestSameCallsAnswerTheSame: P3, also behind calls that were refused.
func TestSameCallsAnswerTheSame(t *testing.T) {
	for range 3 {
		var s Slots
		s, more, e := s.Put("mail", 3)
		s, again, err := s.Put("new", 4)
		_, _, wrong := s.Put("mail", 5)
		s, inode, taken := s.Take("mail")
		s, moved := s.Move("new", "old")
		found, ok := s.Find("old")
		told := fmt.Sprint(more, e, again, err, wrong, inode, taken, moved, found, ok, s, s.Names(), len(s.Bytes()))
		if want := "512 ok 0 ok exists 3 ok ok 4 true [{ 0} {old 4}] [old] 512"; told != want {
			t.Errorf("P3: %s; want %s", told, want)
		}
	}
}
