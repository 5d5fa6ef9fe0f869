package codec

import (
	"bytes"
	"encoding/binary"
	"math"
	"testing"
)

// laid answers what one writer holds behind the calls of do.
func laid(do func(w *Writer)) []byte {
	w := NewWriter()
	do(w)
	return w.Done()
}

func TestWriterNumbers(t *testing.T) {
	numbers := []int{0, 1, 0x7F, 0x80, 0xFF, 0x100, 0x1FF, 0xFFFF, 0x10000, 0x12345678,
		math.MaxInt32, 1 << 31, math.MaxUint32, 1 << 32, 0x123456789A, math.MaxInt,
		-1, -2, -128, -129, -0x10000, math.MinInt32, math.MinInt}
	for _, n := range numbers {
		low := binary.LittleEndian.AppendUint64(nil, uint64(n))
		for _, c := range []struct {
			name string
			do   func(w *Writer)
			want []byte
		}{
			{"U8", func(w *Writer) { w.U8(n) }, low[:1]},
			{"U16", func(w *Writer) { w.U16(n) }, low[:2]},
			{"U32", func(w *Writer) { w.U32(n) }, low[:4]},
		} {
			if got := laid(c.do); !bytes.Equal(got, c.want) {
				t.Errorf("P101: %s(%d): % x; want % x", c.name, n, got, c.want)
			}
		}
	}
}

func TestWriterFixed(t *testing.T) {
	const most = 1 << 16
	long := bytes.Repeat([]byte("mailbag "), most/8+1)
	for _, c := range []struct {
		name string
		b    []byte
		size int
		want []byte
	}{
		{"as many", []byte("abc"), 3, []byte("abc")},
		{"more bytes than size", []byte("abc"), 2, []byte("ab")},
		{"fewer bytes than size", []byte("abc"), 5, []byte("abc\x00\x00")},
		{"size 0", []byte("abc"), 0, nil},
		{"size -1", []byte("abc"), -1, nil},
		{"the least size", []byte("abc"), math.MinInt, nil},
		{"no bytes", nil, 3, []byte{0, 0, 0}},
		{"no bytes, size 0", nil, 0, nil},
		{"one below the bound", long, most - 1, long[:most-1]},
		{"the bound", long, most, long[:most]},
		{"one above the bound", long, most + 1, long[:most]},
		{"above the bound, filled up", []byte("abc"), most + 1, append([]byte("abc"), make([]byte, most-3)...)},
		{"the greatest size", long, math.MaxInt, long[:most]},
	} {
		if got := laid(func(w *Writer) { w.Fixed(c.b, c.size) }); !bytes.Equal(got, c.want) {
			t.Errorf("P101: Fixed, %s: %d bytes; want %d", c.name, len(got), len(c.want))
		}
	}
}

func TestWriterBytes(t *testing.T) {
	for _, size := range []int{0, 1, 255, 256, 1 << 16, 1<<16 + 1} {
		b := bytes.Repeat([]byte{0xA5}, size)
		want := append(binary.LittleEndian.AppendUint32(nil, uint32(size)), b...)
		if got := laid(func(w *Writer) { w.Bytes(b) }); !bytes.Equal(got, want) {
			t.Errorf("P101: Bytes of %d: %d bytes; want %d", size, len(got), len(want))
		}
	}
	if got := laid(func(w *Writer) { w.Bytes(nil) }); string(got) != "\x00\x00\x00\x00" {
		t.Errorf("P101: Bytes of none: %q", got)
	}
}

func TestWriterGoesOn(t *testing.T) {
	w := NewWriter()
	if got := w.Done(); len(got) != 0 {
		t.Errorf("P101: Done of nothing: %q", got)
	}
	w.U16(0x6261)
	first := w.Done()
	w.Fixed([]byte("c"), 1)
	w.Fixed([]byte("nothing"), -1)
	w.Bytes([]byte("d"))
	if got := w.Done(); string(first) != "ab" || string(got) != "abc\x01\x00\x00\x00d" || !bytes.Equal(got, w.Done()) {
		t.Errorf("P101: Done: %q, then %q", first, got)
	}
}

func TestWritersAreApart(t *testing.T) {
	v, w := NewWriter(), NewWriter()
	v.U8('v')
	w.U8('w')
	if string(v.Done()) != "v" || string(w.Done()) != "w" {
		t.Errorf("P7: %q, %q", v.Done(), w.Done())
	}
}

func TestDoneIsNewMemory(t *testing.T) {
	w := NewWriter()
	for i := range 100 {
		w.U8(i)
		spoil(w.Done())
	}
	for i, x := range w.Done() {
		if int(x) != i {
			t.Fatalf("P2: byte %d is %d behind a change of what Done answered", i, x)
		}
	}
	first := w.Done()
	w.U8(100)
	spoil(w.Done())
	if first[99] != 99 {
		t.Error("P2: two answers of Done share memory")
	}
}

func TestWriterLeavesWhatItIsHanded(t *testing.T) {
	room := []byte("abcdef")
	w := NewWriter()
	w.Fixed(room[:3], 2)
	w.Fixed(room[:3], 5)
	w.Bytes(room[:3])
	w.U32(-1)
	if string(room) != "abcdef" {
		t.Errorf("P2: changed to %q", room)
	}
	spoil(room)
	if got := w.Done(); string(got) != "ababc\x00\x00\x03\x00\x00\x00abc\xff\xff\xff\xff" {
		t.Errorf("P2: kept what it was handed: %q", got)
	}
}

// spoil changes all of b's memory, its spare room too.
func spoil(b []byte) {
	b = b[:cap(b)]
	for i := range b {
		b[i] ^= 0xFF
	}
}
