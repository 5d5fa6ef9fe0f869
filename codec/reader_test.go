package codec

import (
	"bytes"
	"math"
	"math/rand"
	"testing"

	"mailbag/api"
)

func TestReaderTakesBack(t *testing.T) {
	w := NewWriter()
	for _, n := range []int{0, 255, -1, 0x1FF} {
		w.U8(n)
		w.U16(n)
		w.U32(n)
	}
	w.Fixed([]byte("abc"), 5)
	w.Fixed(nil, 0)
	w.Bytes([]byte("mail"))
	w.Bytes(nil)
	r := NewReader(w.Done())
	for i, want := range []int{0, 0, 0, 255, 255, 255, 0xFF, 0xFFFF, 0xFFFFFFFF, 0xFF, 0x1FF, 0x1FF} {
		got := []func() int{r.U8, r.U16, r.U32}[i%3]()
		if got != want {
			t.Errorf("P102: number %d: %d; want %d", i, got, want)
		}
	}
	if b := r.Fixed(5); string(b) != "abc\x00\x00" {
		t.Errorf("P102: Fixed(5): %q", b)
	}
	if b := r.Fixed(0); len(b) != 0 {
		t.Errorf("P102: Fixed(0): %q", b)
	}
	if b := r.Bytes(4); string(b) != "mail" {
		t.Errorf("P102: Bytes(4): %q", b)
	}
	if b := r.Bytes(0); len(b) != 0 {
		t.Errorf("P102: Bytes(0): %q", b)
	}
	if e := r.End(); e != api.OK {
		t.Errorf("P102: End: %v", e)
	}
}

func TestReaderOfNothing(t *testing.T) {
	for _, b := range [][]byte{nil, {}} {
		r := NewReader(b)
		if r.End() != api.OK || len(r.Fixed(0)) != 0 || r.End() != api.OK {
			t.Errorf("P102: End of no bytes: %v", r.End())
		}
	}
}

func TestReaderLongFixed(t *testing.T) {
	want := bytes.Repeat([]byte("x"), 1<<16+1)
	r := NewReader(want)
	if got := r.Fixed(len(want)); !bytes.Equal(got, want) || r.End() != api.OK {
		t.Errorf("P102: Fixed(%d): %d bytes, %v", len(want), len(got), r.End())
	}
}

// faults has, of each call that may find one, what it is given and the fault it keeps.
func faults() []struct {
	name, b string
	do      func(r *Reader) bool // whether it answers zero
	want    api.Errno
} {
	return []struct {
		name, b string
		do      func(r *Reader) bool
		want    api.Errno
	}{
		{"U8 of none", "", func(r *Reader) bool { return r.U8() == 0 }, api.ErrShort},
		{"U16 of one", "a", func(r *Reader) bool { return r.U16() == 0 }, api.ErrShort},
		{"U32 of three", "abc", func(r *Reader) bool { return r.U32() == 0 }, api.ErrShort},
		{"Fixed, one too few", "abc", func(r *Reader) bool { return len(r.Fixed(4)) == 0 }, api.ErrShort},
		{"Fixed, the greatest size", "abc", func(r *Reader) bool { return len(r.Fixed(math.MaxInt)) == 0 }, api.ErrShort},
		{"Fixed(-1)", "abc", func(r *Reader) bool { return len(r.Fixed(-1)) == 0 }, api.ErrArg},
		{"Fixed(-1) of none", "", func(r *Reader) bool { return len(r.Fixed(-1)) == 0 }, api.ErrArg},
		{"Fixed, the least size", "abc", func(r *Reader) bool { return len(r.Fixed(math.MinInt)) == 0 }, api.ErrArg},
		{"Bytes without a number", "abc", func(r *Reader) bool { return len(r.Bytes(9)) == 0 }, api.ErrShort},
		{"Bytes without a number, most below 0", "abc", func(r *Reader) bool { return len(r.Bytes(-1)) == 0 }, api.ErrShort},
		{"Bytes, one too few", "\x03\x00\x00\x00ab", func(r *Reader) bool { return len(r.Bytes(9)) == 0 }, api.ErrShort},
		{"Bytes, as many as most, one too few", "\x03\x00\x00\x00ab", func(r *Reader) bool { return len(r.Bytes(3)) == 0 }, api.ErrShort},
		{"Bytes, one more than most", "\x03\x00\x00\x00abc", func(r *Reader) bool { return len(r.Bytes(2)) == 0 }, api.ErrLong},
		{"Bytes, more than most and too few", "\x03\x00\x00\x00ab", func(r *Reader) bool { return len(r.Bytes(2)) == 0 }, api.ErrLong},
		{"Bytes, the greatest number", "\xff\xff\xff\xffab", func(r *Reader) bool { return len(r.Bytes(1<<31)) == 0 }, api.ErrLong},
		{"Bytes, the greatest number and most", "\xff\xff\xff\xffab", func(r *Reader) bool { return len(r.Bytes(math.MaxInt)) == 0 }, api.ErrShort},
		{"Bytes(-1) of none", "\x00\x00\x00\x00", func(r *Reader) bool { return len(r.Bytes(-1)) == 0 }, api.ErrLong},
	}
}

func TestReaderFaults(t *testing.T) {
	for _, c := range faults() {
		r := NewReader([]byte(c.b))
		if !c.do(r) {
			t.Errorf("P102: %s: not zero", c.name)
		}
		if e := r.End(); e != c.want {
			t.Errorf("P102: %s: %v; want %v", c.name, e, c.want)
		}
	}
}

func TestReaderFaultStays(t *testing.T) {
	for _, first := range faults() {
		for _, next := range faults() {
			r := NewReader([]byte(first.b))
			first.do(r)
			if !next.do(r) || r.End() != first.want {
				t.Errorf("P102: %s, then %s: %v; want %v", first.name, next.name, r.End(), first.want)
			}
		}
	}
}

// What would have been taken, had there been no fault, is zero too.
func TestReaderTakesNothingBehindAFault(t *testing.T) {
	behind := "\x01\x00\x00\x00abcdef"
	for _, c := range []struct {
		front string
		do    func(r *Reader)
		want  api.Errno
	}{
		{"", func(r *Reader) { r.Fixed(-1) }, api.ErrArg},
		{"", func(r *Reader) { r.Fixed(100) }, api.ErrShort},
		{"\x02\x00\x00\x00", func(r *Reader) { r.Bytes(1) }, api.ErrLong},
	} {
		r := NewReader([]byte(c.front + behind))
		c.do(r)
		if r.U8() != 0 || r.U16() != 0 || r.U32() != 0 || len(r.Fixed(1)) != 0 || len(r.Fixed(0)) != 0 || len(r.Bytes(9)) != 0 {
			t.Errorf("P102: something is taken behind %v", c.want)
		}
		if e := r.End(); e != c.want || r.End() != e {
			t.Errorf("P102: End: %v; want %v", e, c.want)
		}
	}
}

// End's ErrForm is told as long as bytes are left, and those may still be taken:
// so TestBytes of sharedtests/stage1 has it, where P102 says that it stays.
func TestEndWithBytesLeft(t *testing.T) {
	r := NewReader([]byte("ab"))
	if r.End() != api.ErrForm || r.End() != api.ErrForm {
		t.Error("P102: End ahead of two bytes is not ErrForm")
	}
	if r.U8() != 'a' || r.End() != api.ErrForm {
		t.Error("P102: End ahead of one byte is not ErrForm")
	}
	if r.U8() != 'b' || r.End() != api.OK || r.End() != api.OK {
		t.Error("P102: End behind all bytes is not OK")
	}
	if r.U8() != 0 || r.End() != api.ErrShort {
		t.Error("P102: a byte is taken behind the end")
	}
}

func TestReaderKeepsNothingOfOthers(t *testing.T) {
	room := []byte("ab\x02\x00\x00\x00cd")
	r := NewReader(room[:8:8])
	kept := bytes.Clone(room)
	r.Fixed(1)
	if !bytes.Equal(room, kept) {
		t.Errorf("P2: changed to %q", room)
	}
	spoil(room)
	if b, c := r.Fixed(1), r.Bytes(2); string(b) != "b" || string(c) != "cd" || r.End() != api.OK {
		t.Errorf("P2: kept what it was handed: %q, %q", b, c)
	}
}

func TestReaderAnswersNewMemory(t *testing.T) {
	b := []byte("abcd\x02\x00\x00\x00ef")
	r := NewReader(b)
	first := r.Fixed(2)
	_ = append(first, "????????"...)
	spoil(first)
	second := r.Fixed(2)
	_ = append(second, "????????"...)
	third := r.Bytes(2)
	if string(second) != "cd" || string(third) != "ef" || r.End() != api.OK {
		t.Errorf("P2: %q, %q behind a change of what was answered", second, third)
	}
	spoil(third)
	if string(b) != "abcd\x02\x00\x00\x00ef" || string(second) != "cd" {
		t.Errorf("P2: an answer shares memory: %q, %q", b, second)
	}
}

// step does one call, as n says, and adds what it answered to told.
func step(r *Reader, n, arg int, told *Writer) {
	switch n {
	case 0:
		told.U32(r.U8())
	case 1:
		told.U32(r.U16())
	case 2:
		told.U32(r.U32())
	case 3:
		told.Bytes(r.Fixed(arg))
	case 4:
		told.Bytes(r.Bytes(arg))
	default:
		told.U8(int(r.End()))
	}
}

func TestReaderOfAnyBytes(t *testing.T) {
	source := rand.New(rand.NewSource(1))
	sizes := []int{math.MinInt, -1, 0, 1, 2, 7, 1 << 16, math.MaxInt}
	for range 2000 {
		b := make([]byte, source.Intn(40))
		for i := range b {
			b[i] = byte(source.Intn(4)) // small, so that numbers of bytes often fit
		}
		one, other := NewReader(b), NewReader(b)
		oneTold, otherTold := NewWriter(), NewWriter()
		for range 20 {
			n, arg := source.Intn(6), sizes[source.Intn(len(sizes))]
			step(one, n, arg, oneTold)
			step(other, n, arg, otherTold)
		}
		if !bytes.Equal(oneTold.Done(), otherTold.Done()) {
			t.Fatalf("P3: %q is read in two ways", b)
		}
	}
}
