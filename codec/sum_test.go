package codec

import (
	"bytes"
	"encoding/binary"
	"hash/crc32"
	"math/rand"
	"testing"

	"mailbag/api"
)

func TestSumOfTheDocument(t *testing.T) {
	if got := Sum([]byte("123456789")); got != 0xCBF43926 {
		t.Errorf("P103: %X; want CBF43926", got)
	}
	if got := Sum(nil); got != 0 {
		t.Errorf("P103: of no bytes %X; want 0", got)
	}
}

func TestSumOfAnyBytes(t *testing.T) {
	source := rand.New(rand.NewSource(1))
	for x := range 256 {
		b := []byte{byte(x)}
		if Sum(b) != crc32.ChecksumIEEE(b) {
			t.Errorf("P103: of % x: %X", b, Sum(b))
		}
	}
	for size := range 600 {
		b := make([]byte, size)
		source.Read(b)
		if got, want := Sum(b), crc32.ChecksumIEEE(b); got != want {
			t.Errorf("P103: of %d bytes: %X; want %X", size, got, want)
		}
	}
}

func TestSealAndOpen(t *testing.T) {
	for _, b := range [][]byte{nil, {0}, []byte("mail"), make([]byte, 512), bytes.Repeat([]byte{0xFF}, 70000)} {
		s := Seal(b)
		want := binary.LittleEndian.AppendUint32(bytes.Clone(b), crc32.ChecksumIEEE(b))
		if !bytes.Equal(s, want) {
			t.Errorf("P103: Seal of %d bytes: %d bytes", len(b), len(s))
		}
		got, e := Open(s)
		if e != api.OK || !bytes.Equal(got, b) {
			t.Errorf("P103: Open of %d bytes: %d bytes, %v", len(s), len(got), e)
		}
	}
}

func TestOpenOfTooFew(t *testing.T) {
	for size := range 4 {
		if b, e := Open(make([]byte, size)); e != api.ErrShort || len(b) != 0 {
			t.Errorf("P103: Open of %d bytes: %q, %v; want short", size, b, e)
		}
	}
	if b, e := Open(make([]byte, 4)); e != api.OK || len(b) != 0 {
		t.Errorf("P103: Open of what Seal makes of nothing: %q, %v", b, e)
	}
	if _, e := Open([]byte("\x01\x00\x00\x00")); e != api.ErrSum {
		t.Errorf("P103: Open of four bytes that are no sum: %v; want sum", e)
	}
}

func TestOpenWithABitTurned(t *testing.T) {
	s := Seal([]byte("some mail"))
	for bit := range 8 * len(s) {
		turned := bytes.Clone(s)
		turned[bit/8] ^= 1 << (bit % 8)
		if b, e := Open(turned); e != api.ErrSum || b != nil {
			t.Errorf("P103: Open with bit %d turned: %q, %v; want sum", bit, b, e)
		}
	}
	if _, e := Open(s[:len(s)-1]); e != api.ErrSum {
		t.Errorf("P103: Open without the last byte: %v; want sum", e)
	}
	if _, e := Open(append(bytes.Clone(s), 0)); e != api.ErrSum {
		t.Errorf("P103: Open with a byte more: %v; want sum", e)
	}
}

func TestSumsLeaveWhatTheyAreHanded(t *testing.T) {
	room := []byte("mail, and spare room")
	Sum(room[:4])
	s := Seal(room[:4])
	if string(room) != "mail, and spare room" {
		t.Errorf("P2: Seal changed it to %q", room)
	}
	spoil(room)
	kept := bytes.Clone(s)
	b, e := Open(s)
	if string(b) != "mail" || e != api.OK || !bytes.Equal(s, kept) {
		t.Errorf("P2: %q, %v; %q", b, e, s)
	}
	spoil(b)
	if !bytes.Equal(s, kept) {
		t.Error("P2: what Open answers shares memory with what it was handed")
	}
	again, _ := Open(s)
	spoil(s)
	if string(again) != "mail" {
		t.Error("P2: what Open answered changes with what it was handed")
	}
}
