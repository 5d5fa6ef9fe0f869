package inode

import (
	"bytes"
	"testing"

	"mailbag/api"
)

// roomy is b with spare room behind it that has bytes of its own.
func roomy(b []byte) []byte {
	room := append(bytes.Clone(b), bytes.Repeat([]byte{0x5A}, 40)...)
	return room[:len(b)]
}

// TestDecodeChangesNothing: P2, of bytes and of their spare room, whatever is answered.
func TestDecodeChangesNothing(t *testing.T) {
	bad := Encode(ordinary)
	bad[9]++
	form := sealed(append([]byte{3}, make([]byte, 59)...))
	for _, b := range [][]byte{Encode(ordinary), Encode(full()), bad, form, bad[:63], bad[:0], append(Encode(ordinary), 1)} {
		room := roomy(b)
		was := bytes.Clone(room[:cap(room)])
		Decode(room)
		if !bytes.Equal(room[:cap(room)], was) {
			t.Errorf("P2: Decode(%x) changed what it was handed", b)
		}
	}
}

// TestSpareRoomIsNotRead: a node that is cut short is not made whole by what stands behind it.
func TestSpareRoomIsNotRead(t *testing.T) {
	refuses(t, Encode(ordinary)[:63], api.ErrShort)
	refuses(t, Encode(ordinary)[:0], api.ErrShort)
}

func TestDecodeKeepsNothing(t *testing.T) {
	b := Encode(ordinary)
	n, _ := Decode(b)
	clear(b)
	if n != ordinary {
		t.Errorf("P2: a node changed with the bytes that it came from: %v", n)
	}
	decodes(t, Encode(ordinary), ordinary, api.OK)
}

// TestEncodeIsNewMemory: what is done with one answer, its spare room too, is not seen in another.
func TestEncodeIsNewMemory(t *testing.T) {
	n := ordinary
	one, two := Encode(n), Encode(n)
	one = one[:cap(one)]
	for i := range one {
		one[i] = 0xEE
	}
	if !bytes.Equal(two, laid(n)) || !bytes.Equal(Encode(n), two) || n != ordinary {
		t.Error("P2: answers of Encode share memory")
	}
}

// TestSameCallsAnswerTheSame: P3, also behind calls that were refused.
func TestSameCallsAnswerTheSame(t *testing.T) {
	said := func() []any {
		var list []any
		for _, n := range nodes() {
			x, e := Decode(Encode(n))
			_, short := Decode(Encode(n)[1:])
			list = append(list, x, e, short)
		}
		for _, i := range []int{-1, 0, 7, 8, 135, 136, 300, all - 1, all} {
			p, e := Where(i)
			list = append(list, p, e, Blocks(i*512), Inner(i*512), All(i*512), Most())
		}
		return list
	}
	first, second := said(), said()
	for i := range first {
		if first[i] != second[i] {
			t.Errorf("P3: answer %d: %v, then %v", i, first[i], second[i])
		}
	}
}
