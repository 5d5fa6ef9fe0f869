package bits

import (
	"bytes"
	"math"
	"slices"
	"testing"
)

func TestNewIsNewMemory(t *testing.T) {
	for _, n := range []int{1, 8, 9, 100, 1 << 20} {
		one, _ := New(n)
		two, _ := New(n)
		for i := range one[:cap(one)] {
			one[:cap(one)][i] = 0xFF
		}
		three, _ := New(n)
		for _, m := range []Map{two, three} {
			if whole := m[:cap(m)]; !bytes.Equal(whole, make([]byte, len(whole))) {
				t.Errorf("P2: two answers of New(%d) share memory", n)
			}
		}
	}
}

// TestAskingChangesNothing asks a map whose bytes have others around them, at places inside and outside.
func TestAskingChangesNothing(t *testing.T) {
	room := []byte{0x11, 0x0F, 0x00, 0xFA, 0x22, 0x33}
	was := slices.Clone(room)
	m := Map(room[1:4])
	places := []int{math.MinInt, -8, -1, 0, 3, 4, 8, 15, 23, 24, 31, 40, math.MaxInt}
	for _, from := range places {
		m.Has(from)
		for _, past := range places {
			m.First(from, past)
			m.Count(from, past)
			for _, n := range places {
				m.Run(from, past, n)
			}
		}
	}
	if !bytes.Equal(room, was) {
		t.Errorf("P2: Has, First, Run or Count changed % x to % x", was, room)
	}
}

// TestRoomIsNoPart has bytes around a map's own: they are no bits of it, and stay.
func TestRoomIsNoPart(t *testing.T) {
	for _, around := range []byte{0x00, 0xFF, 0xA5} {
		room := bytes.Repeat([]byte{around}, 6)
		m := Map(room[2:4])
		m[0], m[1] = 0xFF, 0x7F
		was := slices.Clone(room)
		for _, i := range nowhere(len(m)) {
			if m.Has(i) || m.Set(i) || m.Clear(i) {
				t.Errorf("P501: bit %d is one of the bytes around the map", i)
			}
		}
		if !bytes.Equal(room, was) {
			t.Errorf("P2: Set or Clear changed % x to % x", was, room)
		}
		find(t, m, -16, 32, 1, 15)
		find(t, m, 15, 32, 2, -1)
		find(t, m, 16, 32, 1, -1)
		count(t, m, -16, 32, 15)
		if !m.Set(15) || !m.Clear(0) || !bytes.Equal(room, []byte{around, around, 0xFE, 0xFF, around, around}) {
			t.Errorf("P2: Set and Clear: % x", room)
		}
	}
}

// TestChangesAreSeen has a change by a map seen by all that share its bytes, and by no copy.
func TestChangesAreSeen(t *testing.T) {
	m, _ := New(16)
	same, other := m, slices.Clone(m)
	if !m.Set(9) || !same.Has(9) || other.Has(9) || !same.Clear(9) || m.Has(9) {
		t.Error("P501: a map is its bytes")
	}
}
