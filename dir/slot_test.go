package dir

import (
	"bytes"
	"encoding/binary"
	"hash/crc32"
	"math"
	"math/rand/v2"
	"strings"
	"testing"

	"mailbag/api"
)

var ordinary = Entry{Name: "mail", Inode: 0x0201}

// letters is a text of so many bytes, those beside each other unlike.
func letters(size int) string {
	return strings.Repeat("abcdefghijklmnopqrstuvwxyz0123456789-_.", size/39+1)[:size]
}

// sealed is body with its sum, by the library's table and not by codec's.
func sealed(body []byte) []byte {
	return binary.LittleEndian.AppendUint32(bytes.Clone(body), crc32.ChecksumIEEE(body))
}

// laid has the bytes of a slot as P901 tells them, place by place.
func laid(e Entry) []byte {
	b := make([]byte, 60)
	b[0] = byte(len(e.Name))
	b[2], b[3] = byte(e.Inode), byte(e.Inode>>8)
	copy(b[4:], e.Name)
	return sealed(b)
}

func encodes(t *testing.T, e Entry) {
	t.Helper()
	if got := Encode(e); len(got) != 64 || !bytes.Equal(got, laid(e)) {
		t.Errorf("P901: Encode(%v) is %x; want %x", e, got, laid(e))
	}
}

func decodes(t *testing.T, b []byte, want Entry, e api.Errno) {
	t.Helper()
	if got, err := Decode(b); got != want || err != e {
		t.Errorf("P901: Decode(%x): %v, %v; want %v, %v", b, got, err, want, e)
	}
}

// refuses holds an error of Decode, and that nothing is beside it.
func refuses(t *testing.T, b []byte, e api.Errno) {
	t.Helper()
	decodes(t, b, Entry{}, e)
}

// entries are those that Decode takes back.
func entries() []Entry {
	list := []Entry{ordinary}
	for _, name := range []string{"a", "~", "!", "...", ".a", "..a", "mail", letters(47), letters(48), strings.Repeat("~", 48)} {
		for _, inode := range []int{1, 2, 255, 256, 257, 700, 65280, 65534, 65535} {
			list = append(list, Entry{Name: name, Inode: inode})
		}
	}
	return list
}

func TestEncodeByteByByte(t *testing.T) {
	want := append([]byte{4, 0, 1, 2, 'm', 'a', 'i', 'l'}, make([]byte, 52)...)
	if got := Encode(ordinary); !bytes.Equal(got, sealed(want)) {
		t.Errorf("P901: Encode is %x; want %x", got, sealed(want))
	}
}

func TestEncode(t *testing.T) {
	for _, e := range entries() {
		encodes(t, e)
	}
}

// TestEncodeOfLongNames: of the name its first 56 bytes, of its length the lowest 8 bits.
func TestEncodeOfLongNames(t *testing.T) {
	for _, size := range []int{48, 49, 55, 56, 57, 60, 64, 100, 255, 256, 257, 300, 256 + 48, 1<<16 + 5} {
		e := Entry{Name: letters(size), Inode: 7}
		encodes(t, e)
		b := Encode(e)
		if int(b[0]) != size%256 || string(b[4:4+min(size, 56)]) != e.Name[:min(size, 56)] {
			t.Errorf("P901: a name of %d bytes is %x", size, b)
		}
		if size > 48 {
			refuses(t, b, api.ErrForm)
		}
	}
}

// TestEncodeOfInodes: the lowest 16 bits, as U16 of codec has them.
func TestEncodeOfInodes(t *testing.T) {
	for _, inode := range []int{0, 1, 255, 256, 65535, 65536, 65537, 1 << 20, -1, -65535, -65536, math.MinInt, math.MaxInt} {
		encodes(t, Entry{Name: "a", Inode: inode})
		encodes(t, Entry{Name: letters(48), Inode: inode})
	}
}

// TestEncodeOfAFreeSlot: it is laid as all others are, and no free one when it is read.
func TestEncodeOfAFreeSlot(t *testing.T) {
	encodes(t, Entry{})
	refuses(t, Encode(Entry{}), api.ErrForm)
}

func TestDecodeOfEncode(t *testing.T) {
	for _, e := range entries() {
		decodes(t, Encode(e), e, api.OK)
		decodes(t, laid(e), e, api.OK)
	}
}

func TestDecodeOfSizes(t *testing.T) {
	for _, long := range [][]byte{append(laid(ordinary), make([]byte, 600)...), make([]byte, 664), bytes.Repeat([]byte{0xFF}, 664)} {
		for size := range len(long) + 1 {
			switch {
			case size < 64:
				refuses(t, long[:size:size], api.ErrShort)
			case size > 64:
				refuses(t, long[:size:size], api.ErrLong)
			}
		}
	}
	decodes(t, laid(ordinary), ordinary, api.OK)
	refuses(t, nil, api.ErrShort)
}

// TestSizeIsToldFirst has bytes whose sum fits, at other sizes.
func TestSizeIsToldFirst(t *testing.T) {
	refuses(t, sealed(nil), api.ErrShort)
	refuses(t, sealed(laid(ordinary)[:59]), api.ErrShort)
	refuses(t, sealed(make([]byte, 61)), api.ErrLong)
	refuses(t, sealed(laid(ordinary)), api.ErrLong)
}

func TestDecodeOfZeros(t *testing.T) {
	decodes(t, make([]byte, 64), Entry{}, api.OK)
	for bit := range 8 * 64 {
		b := make([]byte, 64)
		b[bit/8] = 1 << (bit % 8)
		refuses(t, b, api.ErrSum)
	}
}

func TestDecodeOfATurnedBit(t *testing.T) {
	for _, e := range []Entry{ordinary, {Name: "a", Inode: 1}, {Name: letters(48), Inode: 65535}} {
		for bit := range 8 * 64 {
			b := laid(e)
			b[bit/8] ^= 1 << (bit % 8)
			refuses(t, b, api.ErrSum)
		}
	}
}

// TestSumIsToldAheadOfForm: P6, for bytes that are wrong in both.
func TestSumIsToldAheadOfForm(t *testing.T) {
	for _, i := range []int{0, 1, 4, 8, 59} {
		b := laid(ordinary)
		b[i] = 0xFF
		refuses(t, b, api.ErrSum)
		refuses(t, sealed(b[:60]), api.ErrForm)
	}
	for _, e := range []Entry{{Name: "mail"}, {Name: "a/b", Inode: 1}, {Inode: 1}, {Name: letters(49), Inode: 1}} {
		b := laid(e)
		b[63] ^= 1
		refuses(t, b, api.ErrSum)
		refuses(t, laid(e), api.ErrForm)
	}
}

// TestDecodeOfLengths has each length with each of some names.
func TestDecodeOfLengths(t *testing.T) {
	for _, size := range []int{1, 4, 47, 48} {
		e := Entry{Name: letters(size), Inode: 9}
		for length := range 256 {
			b := laid(e)[:60]
			b[0] = byte(length)
			if length == size {
				decodes(t, sealed(b), e, api.OK)
				continue
			}
			refuses(t, sealed(b), api.ErrForm)
		}
	}
}

// TestDecodeOfNames: those that are none, laid with their own length.
func TestDecodeOfNames(t *testing.T) {
	for _, name := range []string{"", ".", "..", "/", "a/b", "/a", "a/", " ", "a b", "\x7F", "a\x80", "\xFF", "\x00", "a\x00", "a\x00b", "\x20a", letters(49), letters(55), letters(56), letters(57), letters(256), letters(300)} {
		refuses(t, laid(Entry{Name: name, Inode: 1}), api.ErrForm)
	}
	for x := range 256 {
		e := Entry{Name: "m" + string([]byte{byte(x)}), Inode: 1}
		if x >= 0x21 && x <= 0x7E && x != '/' {
			decodes(t, laid(e), e, api.OK)
			continue
		}
		refuses(t, laid(e), api.ErrForm)
	}
}

func TestDecodeOfInodes(t *testing.T) {
	for _, inode := range []int{1, 255, 256, 32767, 32768, 65535} {
		e := Entry{Name: "a", Inode: inode}
		decodes(t, laid(e), e, api.OK)
	}
	refuses(t, laid(Entry{Name: "a", Inode: 0}), api.ErrForm)
	refuses(t, laid(Entry{Name: letters(48), Inode: 0}), api.ErrForm)
	refuses(t, laid(Entry{Name: "a", Inode: 65536}), api.ErrForm)
}

// TestDecodeOfEachByte puts each value into each byte of a slot, and seals it rightly.
func TestDecodeOfEachByte(t *testing.T) {
	for _, e := range []Entry{ordinary, {Name: "a", Inode: 1}, {Name: letters(48), Inode: 65535}} {
		for i := range 60 {
			for v := range 256 {
				b := laid(e)[:60]
				b[i] = byte(v)
				if want, ok := meant(e, i, v); ok {
					decodes(t, sealed(b), want, api.OK)
					continue
				}
				refuses(t, sealed(b), api.ErrForm)
			}
		}
	}
}

// meant is the entry whose byte i is v, and as e's are the others; false, if there is none.
func meant(e Entry, i, v int) (Entry, bool) {
	switch {
	case i == 0:
		return e, v == len(e.Name)
	case i == 1:
		return e, v == 0
	case i == 2:
		e.Inode = e.Inode&^0xFF | v
		return e, e.Inode != 0
	case i == 3:
		e.Inode = e.Inode&0xFF | v<<8
		return e, e.Inode != 0
	case i-4 >= len(e.Name):
		return e, v == 0
	}
	e.Name = e.Name[:i-4] + string([]byte{byte(v)}) + e.Name[i-3:]
	return e, v >= 0x21 && v <= 0x7E && v != '/' && e.Name != "."
}

func randomName(dice *rand.Rand) string {
	b := make([]byte, 1+dice.IntN(48))
	for i := range b {
		for b[i] == 0 || b[i] == '/' {
			b[i] = byte(0x21 + dice.IntN(0x7F-0x21))
		}
	}
	if s := string(b); s != "." && s != ".." {
		return s
	}
	return "..."
}

func TestRandomEntries(t *testing.T) {
	dice := rand.New(rand.NewPCG(9, 1))
	for range 5000 {
		e := Entry{Name: randomName(dice), Inode: 1 + dice.IntN(65535)}
		encodes(t, e)
		b := Encode(e)
		decodes(t, b, e, api.OK)
		b[dice.IntN(64)] += byte(1 + dice.IntN(255))
		refuses(t, b, api.ErrSum)
	}
}

// TestRandomBytes: what is sealed rightly is Encode of an entry that may be, or ErrForm.
func TestRandomBytes(t *testing.T) {
	dice := rand.New(rand.NewPCG(9, 2))
	taken := 0
	for range 20000 {
		b := make([]byte, 60)
		b[0], b[2] = byte(dice.IntN(5)), byte(dice.IntN(3))
		for i := range dice.IntN(5) {
			b[4+i] = byte(0x1F + dice.IntN(0x62))
		}
		b = sealed(b)
		e, err := Decode(b)
		if err != api.OK {
			refuses(t, b, api.ErrForm)
			continue
		}
		taken++
		if !Name(e.Name) || e.Inode < 1 || !bytes.Equal(laid(e), b) {
			t.Fatalf("P901: Decode(%x) is %v", b, e)
		}
	}
	if taken == 0 {
		t.Error("no bytes were a slot's")
	}
}
