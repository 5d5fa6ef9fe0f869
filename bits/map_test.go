package bits

import (
	"bytes"
	"math"
	"slices"
	"testing"

	"mailbag/api"
)

// nowhere is where a map of size bytes has no bit.
func nowhere(size int) []int {
	return []int{-1, -2, -7, -8, -9, -8 * size, math.MinInt, math.MinInt + 1, math.MinInt + 8,
		8 * size, 8*size + 1, 8*size + 7, 8*size + 8, math.MaxInt - 7, math.MaxInt - 1, math.MaxInt}
}

func TestNew(t *testing.T) {
	for _, c := range []struct{ n, size int }{
		{0, 0}, {1, 1}, {2, 1}, {7, 1}, {8, 1}, {9, 2}, {15, 2}, {16, 2}, {17, 3}, {1000, 125}, {1001, 126},
		{1<<20 - 8, 1<<17 - 1}, {1<<20 - 7, 1 << 17}, {1<<20 - 1, 1 << 17}, {1 << 20, 1 << 17},
	} {
		m, e := New(c.n)
		if e != api.OK || len(m) != c.size {
			t.Errorf("P501: New(%d): %d bytes, %v; want %d", c.n, len(m), e, c.size)
		}
		if !bytes.Equal(m, make([]byte, len(m))) {
			t.Errorf("P501: New(%d): not all bits are 0", c.n)
		}
	}
}

func TestNewOfWrongNumbers(t *testing.T) {
	for _, n := range []int{-1, -8, math.MinInt, 1<<20 + 1, 1<<20 + 8, 1 << 32, math.MaxInt - 7, math.MaxInt} {
		if m, e := New(n); e != api.ErrArg || len(m) != 0 {
			t.Errorf("P501, P4: New(%d): %d bytes, %v; want arg", n, len(m), e)
		}
	}
}

func TestPlaces(t *testing.T) {
	for i := range 32 {
		want := make(Map, 4)
		want[i/8] = []byte{1, 2, 4, 8, 16, 32, 64, 128}[i%8]
		m := make(Map, 4)
		if !m.Set(i) || !bytes.Equal(m, want) {
			t.Errorf("P501: bit %d: % x; want % x", i, m, want)
		}
		for j := range 32 {
			if want.Has(j) != (i == j) {
				t.Errorf("P501: Has(%d) of % x: %v", j, want, want.Has(j))
			}
		}
	}
}

// TestSetAndClear goes over each bit, in maps of all kinds of neighbours.
func TestSetAndClear(t *testing.T) {
	for _, m := range []Map{{0, 0, 0}, {0xFF, 0xFF, 0xFF}, {0x0F, 0xA5, 0xC3}, {0xF0, 0x5A, 0x3C}} {
		for i := range 24 {
			one, zero := slices.Clone(m), slices.Clone(m)
			one[i/8] |= 1 << (i % 8)
			zero[i/8] &^= 1 << (i % 8)
			is := bytes.Equal(m, one)
			if m.Has(i) != is {
				t.Errorf("P501: Has(%d) of % x: %v", i, m, !is)
			}
			got := slices.Clone(m)
			if got.Set(i) == is || !bytes.Equal(got, one) {
				t.Errorf("P501: Set(%d) of % x: %v, % x", i, m, is, got)
			}
			if got.Set(i) || !bytes.Equal(got, one) || !got.Has(i) {
				t.Errorf("P501: Set(%d) of a bit that is 1: % x; want % x, false", i, got, one)
			}
			got = slices.Clone(m)
			if got.Clear(i) != is || !bytes.Equal(got, zero) {
				t.Errorf("P501: Clear(%d) of % x: %v, % x", i, m, !is, got)
			}
			if got.Clear(i) || !bytes.Equal(got, zero) || got.Has(i) {
				t.Errorf("P501: Clear(%d) of a bit that is 0: % x; want % x, false", i, got, zero)
			}
		}
	}
}

func TestBitsThatAreNot(t *testing.T) {
	for _, m := range []Map{nil, {}, {0}, {0xFF}, {0, 0, 0}, {0xFF, 0xFF, 0xFF}, {0xA5, 0x5A}} {
		was := slices.Clone(m)
		for _, i := range nowhere(len(m)) {
			if m.Has(i) {
				t.Errorf("P501: Has(%d) of %d bytes", i, len(m))
			}
			if m.Set(i) || !bytes.Equal(m, was) {
				t.Errorf("P501, P9: Set(%d) of %d bytes: true, or a change", i, len(m))
			}
			if m.Clear(i) || !bytes.Equal(m, was) {
				t.Errorf("P501, P9: Clear(%d) of %d bytes: true, or a change", i, len(m))
			}
		}
	}
}

// TestLastBit has bits behind those that were asked for: the map's bytes say how many there are.
func TestLastBit(t *testing.T) {
	for _, n := range []int{1, 8, 9, 17, 1<<20 - 1, 1 << 20} {
		m, _ := New(n)
		last := 8*len(m) - 1
		for _, i := range []int{last, n - 1, 0} {
			m.Clear(i)
			if m.Has(i) || !m.Set(i) || !m.Has(i) || m.Set(i) || !m.Clear(i) || m.Has(i) || m.Clear(i) {
				t.Errorf("P501: New(%d): bit %d", n, i)
			}
		}
		if m.Set(last+1) || m.Has(last+1) || m.Clear(last+1) || m.Set(-1) || m.Has(-1) || m.Clear(-1) {
			t.Errorf("P501: New(%d): bit %d or -1", n, last+1)
		}
	}
}
