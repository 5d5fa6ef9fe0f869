package dir

import (
	"bytes"
	"fmt"
	"slices"
	"testing"

	"mailbag/api"
)

// roomy is s with spare room behind it that has slots of its own.
func roomy(s Slots) Slots {
	room := slices.Clone(s)
	for i := range 20 {
		room = append(room, Entry{Name: fmt.Sprint("room", i), Inode: 900 + i})
	}
	return room[:len(s)]
}

func roomyBytes(b []byte) []byte {
	room := append(bytes.Clone(b), bytes.Repeat([]byte{0x5A}, 1000)...)
	return room[:len(b)]
}

// spoil writes over all of an answer, its spare room too.
func spoil[T any](list []T, with T) {
	list = list[:cap(list)]
	for i := range list {
		list[i] = with
	}
}

// calls are those of Slots, each with the slots that it answers, if it answers any.
func calls() map[string]func(s Slots) (Slots, api.Errno) {
	return map[string]func(s Slots) (Slots, api.Errno){
		"put":         func(s Slots) (Slots, api.Errno) { x, _, e := s.Put("new", 7); return x, e },
		"put wrong":   func(s Slots) (Slots, api.Errno) { x, _, e := s.Put("/", 7); return x, e },
		"put nowhere": func(s Slots) (Slots, api.Errno) { x, _, e := s.Put("new", 0); return x, e },
		"put again":   func(s Slots) (Slots, api.Errno) { x, _, e := s.Put("m1", 7); return x, e },
		"take":        func(s Slots) (Slots, api.Errno) { x, _, e := s.Take("m1"); return x, e },
		"take none":   func(s Slots) (Slots, api.Errno) { x, _, e := s.Take("new"); return x, e },
		"move":        func(s Slots) (Slots, api.Errno) { return s.Move("m1", "new") },
		"move itself": func(s Slots) (Slots, api.Errno) { return s.Move("m1", "m1") },
		"move over":   func(s Slots) (Slots, api.Errno) { return s.Move("m1", "m2") },
		"move none":   func(s Slots) (Slots, api.Errno) { return s.Move("new", "m2") },
		"move wrong":  func(s Slots) (Slots, api.Errno) { return s.Move("m1", "") },
		"find":        func(s Slots) (Slots, api.Errno) { s.Find("m1"); s.Find(""); s.Find("room0"); return nil, api.OK },
		"names":       func(s Slots) (Slots, api.Errno) { spoil(s.Names(), "spoilt"); return nil, api.OK },
		"bytes":       func(s Slots) (Slots, api.Errno) { spoil(s.Bytes(), 0xEE); return nil, api.OK },
	}
}

// TestSlotsStay: P2, P5: what is done to an answer is not seen in the slots, nor in their spare room, whatever was answered.
func TestSlotsStay(t *testing.T) {
	for word, call := range calls() {
		for _, s := range []Slots{nil, {}, {{}}, listed(3), listed(8), listed(9), holed(listed(9), 4), holed(listed(9), 0, 8)} {
			for _, s := range []Slots{s, roomy(s)} {
				was := slices.Clone(s[:cap(s)])
				first, e := call(s)
				told := slices.Clone(first)
				if e != api.OK && len(first) != 0 {
					t.Errorf("P4: %s of %v: %v beside %v", word, s, first, e)
				}
				if !slices.Equal(s[:cap(s)], was) {
					t.Errorf("P2: %s changed %v to %v", word, was, s[:cap(s)])
				}
				spoil(first, Entry{"spoilt", 1})
				second, _ := call(s)
				if !slices.Equal(s[:cap(s)], was) || !slices.Equal(second, told) {
					t.Errorf("P2: %s of %v shares memory", word, was)
				}
			}
		}
	}
}

// TestAnswersAreApart: one's own slots answer to several calls, and what they answered to go their ways.
func TestAnswersAreApart(t *testing.T) {
	for _, s := range []Slots{nil, roomy(nil), listed(5), roomy(listed(5)), roomy(listed(8)), roomy(holed(listed(8), 2))} {
		one, _, _ := s.Put("one", 1)
		two, _, _ := s.Put("two", 2)
		finds(t, one, "one", 1, true)
		finds(t, one, "two", 0, false)
		finds(t, two, "two", 2, true)
		finds(t, two, "one", 0, false)
		three, _, _ := one.Put("three", 3)
		four, _, _ := one.Put("four", 4)
		finds(t, three, "four", 0, false)
		finds(t, four, "three", 0, false)
		five, _ := three.Move("one", "five")
		six, _, _ := three.Take("one")
		finds(t, three, "one", 1, true)
		finds(t, five, "five", 1, true)
		finds(t, six, "one", 0, false)
	}
}

// TestWritesToSlotsAreNotSeen: nothing that was handed in is kept.
func TestWritesToSlotsAreNotSeen(t *testing.T) {
	s := listed(9)
	put, _, _ := s.Put("new", 7)
	taken, _, _ := s.Take("m3")
	moved, _ := s.Move("m3", "m3")
	b, names := s.Bytes(), s.Names()
	spoil(s, Entry{"spoilt", 1})
	if !slices.Equal(put, append(listed(9), Entry{"new", 7})) || !slices.Equal(taken, holed(listed(9), 3)) || !slices.Equal(moved, listed(9)) {
		t.Errorf("P2: slots changed with those that they came from: %v, %v, %v", put, taken, moved)
	}
	if !bytes.Equal(b, whole(listed(9))) || !slices.Equal(names, listed(9).Names()) {
		t.Errorf("P2: bytes or names changed with their slots: %x, %q", b, names)
	}
}

// TestReadingChangesNothing: P2, of bytes and of their spare room, whatever is answered.
func TestReadingChangesNothing(t *testing.T) {
	turned := laid(ordinary)
	turned[9]++
	for _, b := range [][]byte{nil, laid(ordinary), turned, turned[:63], laid(Entry{}), make([]byte, 64), whole(listed(9)), whole(listed(9))[:100], append(whole(listed(15))[:960], turned...)} {
		room := roomyBytes(b)
		was := bytes.Clone(room[:cap(room)])
		Decode(room)
		Read(room)
		if !bytes.Equal(room[:cap(room)], was) {
			t.Errorf("P2: Decode or Read changed %x", b)
		}
	}
}

// TestSpareRoomIsNotRead: what is cut short is not made whole by what stands behind it.
func TestSpareRoomIsNotRead(t *testing.T) {
	refuses(t, laid(ordinary)[:63], api.ErrShort)
	refuses(t, laid(ordinary)[:0], api.ErrShort)
	reads(t, whole(listed(9))[:1023], nil, api.ErrForm)
	reads(t, whole(listed(9))[:512], listed(8), api.OK)
	reads(t, whole(listed(9))[:0], nil, api.OK)
	s := listed(9)[:4]
	finds(t, s, "m4", 0, false)
	takes(t, s, "m4", nil, 0, api.ErrNone)
	named(t, s, "m0", "m1", "m2", "m3")
	puts(t, s, "m4", 1, append(listed(4), Entry{"m4", 1}), 0, api.OK)
	if !bytes.Equal(s.Bytes(), whole(listed(4))) {
		t.Errorf("P902: Bytes of %v: %x", s, s.Bytes())
	}
}

func TestReadingKeepsNothing(t *testing.T) {
	b, block := laid(ordinary), whole(listed(9))
	e, _ := Decode(b)
	s, _ := Read(block)
	spoil(b, 0xEE)
	spoil(block, 0xEE)
	if e != ordinary || !slices.Equal(s, padded(listed(9))) {
		t.Errorf("P2: slots changed with the bytes that they came from: %v, %v", e, s)
	}
}

// TestBytesAreNewMemory: what is done with one answer, its spare room too, is not seen in another.
func TestBytesAreNewMemory(t *testing.T) {
	one, two := Encode(ordinary), Encode(ordinary)
	spoil(one, 0xEE)
	if !bytes.Equal(two, laid(ordinary)) || !bytes.Equal(Encode(ordinary), two) {
		t.Error("P2: answers of Encode share memory")
	}
	s := listed(3)
	first, second := s.Bytes(), s.Bytes()
	spoil(first, 0xEE)
	if !bytes.Equal(second, whole(s)) || !bytes.Equal(s.Bytes(), whole(s)) {
		t.Error("P2: answers of Bytes share memory")
	}
	block := whole(s)
	here, _ := Read(block)
	there, _ := Read(block)
	spoil(here, Entry{"spoilt", 1})
	if !slices.Equal(there, padded(s)) || !bytes.Equal(block, whole(s)) {
		t.Error("P2: answers of Read share memory")
	}
}

// TestNoSlotsAndEmptyOnesAreTheSame: P2.
func TestNoSlotsAndEmptyOnesAreTheSame(t *testing.T) {
	for word, call := range calls() {
		none, e := call(nil)
		empty, err := call(Slots{})
		if !slices.Equal(none, empty) || e != err {
			t.Errorf("P2: %s: %v, %v; %v, %v", word, none, e, empty, err)
		}
	}
}
