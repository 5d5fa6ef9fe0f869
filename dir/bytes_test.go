package dir

import (
	"bytes"
	"fmt"
	"slices"
	"testing"

	"mailbag/api"
)

// listed are so many slots, each taken, unlike in names and inodes.
func listed(n int) Slots {
	var s Slots
	for i := range n {
		s = append(s, Entry{Name: fmt.Sprint("m", i), Inode: 100 + i})
	}
	return s
}

// holed is s with those places free.
func holed(s Slots, places ...int) Slots {
	s = slices.Clone(s)
	for _, i := range places {
		s[i] = Entry{}
	}
	return s
}

// padded is s up to a whole block by free slots, eight a block.
func padded(s Slots) Slots {
	s = slices.Clone(s)
	for len(s)%8 != 0 {
		s = append(s, Entry{})
	}
	return s
}

// whole has the bytes of slots as P902 tells them.
func whole(s Slots) []byte {
	var b []byte
	for _, e := range padded(s) {
		if e == (Entry{}) {
			b = append(b, make([]byte, 64)...)
			continue
		}
		b = append(b, laid(e)...)
	}
	return b
}

func reads(t *testing.T, b []byte, want Slots, e api.Errno) {
	t.Helper()
	if got, err := Read(b); !slices.Equal(got, want) || err != e {
		t.Errorf("P902: Read of %d bytes: %v, %v; want %v, %v", len(b), got, err, want, e)
	}
}

func TestBytesOfSlots(t *testing.T) {
	for n, blocks := range map[int]int{0: 0, 1: 1, 2: 1, 7: 1, 8: 1, 9: 2, 15: 2, 16: 2, 17: 3, 256: 32, 257: 33} {
		s := listed(n)
		if got := s.Bytes(); len(got) != 512*blocks || !bytes.Equal(got, whole(s)) {
			t.Errorf("P902: Bytes of %d slots: %d bytes, %x; want %x", n, len(got), got, whole(s))
		}
	}
	if got := (Slots{}).Bytes(); len(got) != 0 {
		t.Errorf("P902: Bytes of no slots: %x", got)
	}
}

// TestBytesOfFreeSlots: free ones are bytes 0 where they stand, and count as others do.
func TestBytesOfFreeSlots(t *testing.T) {
	for _, s := range []Slots{{{}}, make(Slots, 8), make(Slots, 9), holed(listed(9), 0), holed(listed(9), 7), holed(listed(9), 8), holed(listed(8), 0, 1, 2, 3, 4, 5, 6, 7), holed(listed(20), 1, 3, 19)} {
		if got := s.Bytes(); !bytes.Equal(got, whole(s)) {
			t.Errorf("P902: Bytes of %v: %x; want %x", s, got, whole(s))
		}
	}
	if got := make(Slots, 9).Bytes(); !bytes.Equal(got, make([]byte, 1024)) {
		t.Errorf("P902: Bytes of free slots: %x", got)
	}
}

func TestReadOfBlocks(t *testing.T) {
	reads(t, nil, nil, api.OK)
	reads(t, []byte{}, nil, api.OK)
	for blocks := range 5 {
		reads(t, make([]byte, 512*blocks), make(Slots, 8*blocks), api.OK)
		reads(t, whole(listed(8*blocks)), listed(8*blocks), api.OK)
	}
	mixed := holed(listed(16), 0, 3, 8, 15)
	reads(t, whole(mixed), mixed, api.OK)
	twice := append(listed(7), listed(1)...) // no slot of it is wrong
	reads(t, whole(twice), twice, api.OK)
}

func TestReadOfBytes(t *testing.T) {
	for n := range 40 {
		reads(t, listed(n).Bytes(), padded(listed(n)), api.OK)
		if n > 0 {
			s := holed(listed(n), 0, n/2, n-1)
			reads(t, s.Bytes(), padded(s), api.OK)
		}
	}
}

// TestReadOfSizes: each size that is no whole block, whole slots too.
func TestReadOfSizes(t *testing.T) {
	b := whole(listed(24))
	for size := range len(b) + 1 {
		if size%512 == 0 {
			reads(t, b[:size:size], listed(size/64), api.OK)
			continue
		}
		reads(t, b[:size:size], nil, api.ErrForm)
	}
}

// TestReadOfWrongSlots has one slot wrong at each place.
func TestReadOfWrongSlots(t *testing.T) {
	turned := laid(ordinary)
	turned[20] ^= 4
	for place := range 16 {
		for e, slot := range map[api.Errno][]byte{api.ErrSum: turned, api.ErrForm: laid(Entry{Name: "a/b", Inode: 1})} {
			b := whole(listed(16))
			copy(b[64*place:], slot)
			reads(t, b, nil, e)
		}
	}
}

// TestReadTellsTheFirstError: P6: the size ahead of the slots; of several wrong slots the first one.
func TestReadTellsTheFirstError(t *testing.T) {
	turned, form := laid(ordinary), laid(Entry{Name: "mail"})
	turned[63] ^= 1
	b := whole(listed(16))
	copy(b[64*3:], turned)
	copy(b[64*9:], form)
	reads(t, b, nil, api.ErrSum)
	copy(b[64*2:], form)
	reads(t, b, nil, api.ErrForm)
	copy(b[64*2:], turned)
	for _, size := range []int{1, 63, 64, 65, 192, 256, 511, 513, 576, 1023} {
		reads(t, b[:size:size], nil, api.ErrForm)
	}
	reads(t, b[:512], nil, api.ErrSum)
}
