package line

import (
	"bytes"
	"slices"
	"testing"
	"unsafe"
)

// roomy is the bytes of a text with spare room behind them, and all of that.
func roomy(in string) ([]byte, []byte) {
	room := []byte(in + "\r\nspare\r\nroom\r\n")
	return room[:len(in)], room
}

// spoil writes over bytes, their spare room too.
func spoil(b []byte) {
	b = b[:cap(b)]
	for i := range b {
		b[i] = '!'
	}
}

// ins are bytes with no line's end, one, several, and one that is the last.
func ins() []string {
	return []string{"", "a", "abc", "\r", "ab\r", "ab\r\n", "ab\r\ncd", "ab\r\ncd\r\nef\r", "\r\n\r\n", "abcdefgh", "abcdefgh\r", "abcdefgh\r\n", "abcdefgh\r\nijklmnop\r\nq"}
}

// TestBytesStay: P2: what is handed in is not changed, its spare room neither, and of that nothing is read.
func TestBytesStay(t *testing.T) {
	for _, begun := range ins() {
		for _, in := range ins() {
			one, two, p := made(t, 6), made(t, 6), &plain{most: 6}
			one.Feed([]byte(begun))
			two.Feed([]byte(begun))
			p.feed(begun)
			b, room := roomy(in)
			was := slices.Clone(room)
			if got, want := one.Feed(b), p.feed(in); !slices.Equal(got, want) {
				t.Errorf("P1301: %s: Feed(%s): %s; want %s", brief(begun), brief(in), shown(got), shown(want))
			}
			two.Next(b)
			if !bytes.Equal(room, was) {
				t.Errorf("P2: Feed or Next of %s left %q of %q", brief(in), room, was)
			}
			holds(t, one, p.held())
		}
	}
}

// TestBytesAreNotKept: P2: bytes that change behind the call change nothing, while their line is taken too.
func TestBytesAreNotKept(t *testing.T) {
	s := made(t, 12)
	b := []byte("ab")
	s.Feed(b)
	spoil(b)
	b = []byte("\r")
	s.Next(b)
	spoil(b)
	b = []byte("cd\r")
	s.Feed(b)
	spoil(b)
	b = []byte("ef")
	s.Next(b)
	spoil(b)
	feeds(t, s, "\r\n", told("ab\rcd\ref"))
	b, room := roomy("gh\r\nij\r\nkl")
	lines := s.Feed(b)
	spoil(room)
	if want := []Line{told("gh"), told("ij")}; !slices.Equal(lines, want) {
		t.Errorf("P2: Feed: %s behind a change of its bytes", shown(lines))
	}
	b, room = roomy("mn\r\nop")
	l, _, rest := s.Next(b)
	spoil(room)
	if l != told("klmn") || string(rest) != "op" {
		t.Errorf("P2: Next: %s, %q behind a change of its bytes", shown([]Line{l}), rest)
	}
	b = []byte("1234567890abc")
	s.Feed(b)
	spoil(b)
	feeds(t, s, "\r\n", tooLong("1234567890"))
}

// TestAnswersAreNew: P2: what is done to an answer, its spare room too, is seen nowhere else.
func TestAnswersAreNew(t *testing.T) {
	s := made(t, 12)
	b, room := roomy("ab\r\ncd\r\nef")
	was := slices.Clone(room)
	l, _, rest := s.Next(b)
	_, _, other := s.Next(b)
	spoil(rest)
	if !bytes.Equal(room, was) || string(other) != "cd\r\nef" || l != told("ab") {
		t.Errorf("P2: a change of what Next left is seen: %q, %q, %s", room, other, shown([]Line{l}))
	}
	s.Feed([]byte("gh"))
	_, _, rest = s.Next([]byte("\r\nij"))
	s.Feed([]byte("ij"))
	spoil(rest)
	feeds(t, s, "\r\n", told("ij"))
	one := s.Feed([]byte("kl\r\nmn\r\nop\r\n"))
	two := s.Feed([]byte("kl\r\nmn\r\nop\r\nqr"))
	want := slices.Clone(two)
	one = one[:cap(one)]
	for i := range one {
		one[i] = tooLong("spoilt")
	}
	if !slices.Equal(two, want) {
		t.Errorf("P2: a change of what Feed answered is seen: %s", shown(two))
	}
	feeds(t, s, "\r\n", told("qr"))
}

// TestNothingLeftIsNew: P2: no spare room behind the last byte is handed out, neither of what is left nor of no bytes.
func TestNothingLeftIsNew(t *testing.T) {
	for _, in := range []string{"ab\r\n", "ab", "", "\r\n", "abcdefgh\r\n"} {
		b, room := roomy(in)
		was := slices.Clone(room)
		_, _, rest := made(t, 6).Next(b)
		spoil(rest)
		if len(rest) != 0 || !bytes.Equal(room, was) {
			t.Errorf("P2: what Next(%s) left has %q of its room", brief(in), rest[:cap(rest)])
		}
	}
}

// TestTextsAreNew: P2: no text stands in the memory of the bytes that it was taken of.
func TestTextsAreNew(t *testing.T) {
	b := []byte("mail from\r\nmail to\r\n")
	lines := made(t, 100).Feed(b)
	l, _, _ := made(t, 100).Next(b)
	from := uintptr(unsafe.Pointer(unsafe.SliceData(b)))
	for _, l := range append(lines, l) {
		at := uintptr(unsafe.Pointer(unsafe.StringData(l.Text)))
		if at >= from && at < from+uintptr(len(b)) {
			t.Errorf("P2: the text %s is a piece of what was handed in", l.Text)
		}
	}
	spoil(b)
	if want := []Line{told("mail from"), told("mail to")}; !slices.Equal(lines, want) || l != want[0] {
		t.Errorf("P2: texts change with the bytes: %s, %s", shown(lines), l.Text)
	}
}
