package inode

import (
	"bytes"
	"encoding/binary"
	"hash/crc32"
	"math"
	"math/rand/v2"
	"testing"

	"mailbag/api"
)

const (
	most32 = 1<<32 - 1
	most   = 512 * (8 + 128 + 128*128)
)

// ordinary has an unlike number in each field, and an unlike byte in each byte of it.
var ordinary = Node{
	Kind: Dir, Links: 0x0403, Size: 0x070605,
	Direct: [8]int{0x0D0C0B0A, 0x11100F0E, 0x15141312, 0x19181716, 0x1D1C1B1A, 0x21201F1E, 0x25242322, 0x29282726},
	One:    0x2D2C2B2A, Two: 0x31302F2E,
}

// sealed is body with its sum, by the library's table and not by codec's.
func sealed(body []byte) []byte {
	return binary.LittleEndian.AppendUint32(bytes.Clone(body), crc32.ChecksumIEEE(body))
}

// laid has the bytes of a node as P701 tells them, place by place.
func laid(n Node) []byte {
	b := make([]byte, 60)
	b[0] = byte(n.Kind)
	binary.LittleEndian.PutUint16(b[2:], uint16(n.Links))
	binary.LittleEndian.PutUint32(b[4:], uint32(n.Size))
	for i, at := range n.Direct {
		binary.LittleEndian.PutUint32(b[8+4*i:], uint32(at))
	}
	binary.LittleEndian.PutUint32(b[40:], uint32(n.One))
	binary.LittleEndian.PutUint32(b[44:], uint32(n.Two))
	return sealed(b)
}

func decodes(t *testing.T, b []byte, want Node, e api.Errno) {
	t.Helper()
	if n, got := Decode(b); n != want || got != e {
		t.Errorf("P701: Decode(%x): %v, %v; want %v, %v", b, n, got, want, e)
	}
}

// refuses holds an error of Decode, and that nothing is beside it.
func refuses(t *testing.T, b []byte, e api.Errno) {
	t.Helper()
	decodes(t, b, Node{}, e)
}

// full is a node with the greatest numbers that may be.
func full() Node {
	n := Node{Kind: Dir, Links: 65535, Size: most, One: most32, Two: most32}
	for i := range n.Direct {
		n.Direct[i] = most32
	}
	return n
}

// nodes are those that Decode takes back.
func nodes() []Node {
	list := []Node{{}, ordinary, full(), {Kind: None}, {Kind: File}, {Kind: Dir}, {Links: 1}, {Links: 255}, {Links: 256}, {Links: 65535},
		{Size: 1}, {Size: 255}, {Size: 256}, {Size: 65536}, {Size: most - 1}, {Size: most}, {One: 1}, {One: most32}, {Two: 1}, {Two: most32},
		{Kind: File, Links: 1, Size: 5000, One: 70000, Two: 1 << 20}}
	for i := range 8 {
		for _, at := range []int{1, 1 << 8, 1 << 31, most32} {
			var n Node
			n.Direct[i] = at
			list = append(list, n)
		}
	}
	return list
}

func TestEncodeByteByByte(t *testing.T) {
	got := Encode(ordinary)
	want := []byte{2, 0, 3, 4, 5, 6, 7, 0}
	for x := byte(0x0A); x <= 0x31; x++ {
		want = append(want, x)
	}
	want = append(want, make([]byte, 12)...)
	if want = sealed(want); len(want) != 64 || !bytes.Equal(got, want) {
		t.Errorf("P701: Encode is %x; want %x", got, want)
	}
}

func TestEncode(t *testing.T) {
	for _, n := range nodes() {
		if got := Encode(n); !bytes.Equal(got, laid(n)) {
			t.Errorf("P701: Encode(%v) is %x; want %x", n, got, laid(n))
		}
	}
}

func TestEncodeOfZeros(t *testing.T) {
	b := Encode(Node{})
	if len(b) != 64 || !bytes.Equal(b[:60], make([]byte, 60)) || bytes.Equal(b[60:], make([]byte, 4)) {
		t.Errorf("P701: Encode of a node of zeros is %x", b)
	}
	decodes(t, b, Node{}, api.OK)
}

func TestDecodeOfEncode(t *testing.T) {
	for _, n := range nodes() {
		decodes(t, Encode(n), n, api.OK)
		decodes(t, laid(n), n, api.OK)
	}
}

// TestEncodeOfWhatMayNotBe: such nodes have bytes, and Decode tells what is wrong with them.
func TestEncodeOfWhatMayNotBe(t *testing.T) {
	for _, n := range []Node{{Kind: 3}, {Kind: 255}, {Size: most + 1}, {Size: most32}, {Kind: 3, Size: most + 1}, {Kind: File, Links: 1, Size: most + 1}} {
		if !bytes.Equal(Encode(n), laid(n)) {
			t.Errorf("P701: Encode(%v) is %x; want %x", n, Encode(n), laid(n))
		}
		refuses(t, Encode(n), api.ErrForm)
	}
}

// TestEncodeOfAnyNumber: P1 alone holds of numbers that have more bits than their place.
func TestEncodeOfAnyNumber(t *testing.T) {
	for _, x := range []int{-1, 1 << 16, 1 << 32, math.MinInt, math.MaxInt} {
		n := Node{Kind: x, Links: x, Size: x, One: x, Two: x}
		for i := range n.Direct {
			n.Direct[i] = x
		}
		if b := Encode(n); len(b) != 64 {
			t.Errorf("P1: Encode of numbers %d has %d bytes", x, len(b))
		}
	}
}

func TestDecodeOfSizes(t *testing.T) {
	long := append(Encode(ordinary), make([]byte, 1000)...)
	for size := range len(long) + 1 {
		switch {
		case size < 64:
			refuses(t, long[:size], api.ErrShort)
		case size > 64:
			refuses(t, long[:size], api.ErrLong)
		default:
			decodes(t, long[:size], ordinary, api.OK)
		}
	}
	refuses(t, nil, api.ErrShort)
}

// TestSizeIsToldFirst has bytes that are no node by their sum and their form, too, or are sealed with another size.
func TestSizeIsToldFirst(t *testing.T) {
	for _, size := range []int{0, 1, 3, 4, 59, 63} {
		refuses(t, bytes.Repeat([]byte{0xFF}, size), api.ErrShort)
	}
	for _, size := range []int{65, 128, 512} {
		refuses(t, bytes.Repeat([]byte{0xFF}, size), api.ErrLong)
	}
	refuses(t, sealed(nil), api.ErrShort)
	refuses(t, sealed(make([]byte, 59)), api.ErrShort)
	refuses(t, sealed(make([]byte, 61)), api.ErrLong)
	refuses(t, sealed(Encode(ordinary)), api.ErrLong)
}

func TestDecodeOfATurnedBit(t *testing.T) {
	for _, n := range []Node{{}, ordinary, full()} {
		for bit := range 8 * 64 {
			b := Encode(n)
			b[bit/8] ^= 1 << (bit % 8)
			refuses(t, b, api.ErrSum)
		}
	}
}

// TestSumIsToldAheadOfForm: P6, for bytes that are wrong in both.
func TestSumIsToldAheadOfForm(t *testing.T) {
	for _, i := range []int{0, 1, 7, 48, 59} {
		b := Encode(ordinary)
		b[i] = 0xFF
		refuses(t, b, api.ErrSum)
		refuses(t, sealed(b[:60]), api.ErrForm)
	}
	refuses(t, bytes.Repeat([]byte{0xFF}, 64), api.ErrSum)
	refuses(t, make([]byte, 64), api.ErrSum)
}

// TestDecodeOfEachByte puts each value into each byte of a node, and seals it rightly.
func TestDecodeOfEachByte(t *testing.T) {
	for _, n := range []Node{{}, {Kind: File, Links: 1, Size: 1}, full()} {
		for i := range 60 {
			for v := range 256 {
				b := laid(n)[:60]
				b[i] = byte(v)
				size := int(binary.LittleEndian.Uint32(b[4:]))
				if b[0] > 2 || b[1] != 0 || size > most || i >= 48 && v != 0 {
					refuses(t, sealed(b), api.ErrForm)
					continue
				}
				want := n
				put(&want, i, v)
				decodes(t, sealed(b), want, api.OK)
			}
		}
	}
}

// put is what byte i of a node means.
func put(n *Node, i, v int) {
	field, low := &n.Kind, i
	switch {
	case i == 0:
		low = 0
	case i < 4:
		field, low = &n.Links, i-2
	case i < 8:
		field, low = &n.Size, i-4
	case i < 40:
		field, low = &n.Direct[(i-8)/4], i%4
	case i < 44:
		field, low = &n.One, i-40
	case i < 48:
		field, low = &n.Two, i-44
	}
	if i == 1 || i >= 48 {
		return
	}
	*field = *field&^(0xFF<<(8*low)) | v<<(8*low)
}

func TestDecodeOfSizesOfFiles(t *testing.T) {
	for _, size := range []int{0, 1, 511, 512, 513, most - 1, most, most + 1, most + 256, 1 << 24, 1 << 31, most32} {
		n := Node{Kind: File, Links: 1, Size: size}
		if size > most {
			refuses(t, laid(n), api.ErrForm)
			continue
		}
		decodes(t, laid(n), n, api.OK)
	}
}

// TestDecodeOfWhatStandsBehindTwo: each of the bytes up to the sum.
func TestDecodeOfWhatStandsBehindTwo(t *testing.T) {
	for i := 48; i < 60; i++ {
		for bit := range 8 {
			b := laid(ordinary)[:60]
			b[i] = 1 << bit
			refuses(t, sealed(b), api.ErrForm)
		}
	}
}

func randomNode(r *rand.Rand) Node {
	n := Node{Kind: r.IntN(3), Links: r.IntN(1 << 16), Size: r.IntN(most + 1), One: r.IntN(1 << 32), Two: r.IntN(1 << 32)}
	for i := range n.Direct {
		n.Direct[i] = r.IntN(1 << 32)
	}
	return n
}

func TestRandomNodes(t *testing.T) {
	r := rand.New(rand.NewPCG(7, 1))
	for range 5000 {
		n := randomNode(r)
		b := Encode(n)
		if !bytes.Equal(b, laid(n)) {
			t.Fatalf("P701: Encode(%v) is %x; want %x", n, b, laid(n))
		}
		decodes(t, b, n, api.OK)
		b[r.IntN(64)] += byte(1 + r.IntN(255))
		refuses(t, b, api.ErrSum)
	}
}

// TestRandomBytes: what is sealed rightly is Encode of a node, or ErrForm.
func TestRandomBytes(t *testing.T) {
	r := rand.New(rand.NewPCG(7, 2))
	taken := 0
	for range 20000 {
		b := make([]byte, 60)
		for range r.IntN(30) {
			b[r.IntN(60)] = byte(r.IntN(256)) >> r.IntN(8)
		}
		b = sealed(b)
		n, e := Decode(b)
		if e != api.OK {
			refuses(t, b, api.ErrForm)
			continue
		}
		taken++
		if n.Kind > Dir || n.Size > most || !bytes.Equal(laid(n), b) {
			t.Fatalf("P701: Decode(%x) is %v", b, n)
		}
	}
	if taken == 0 {
		t.Error("no bytes were a node's")
	}
}
