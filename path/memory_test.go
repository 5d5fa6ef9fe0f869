package path

import (
	"slices"
	"testing"
	"unsafe"

	"mailbag/api"
)

// spoil writes over all of an answer, its spare room too.
func spoil(list []string) {
	list = list[:cap(list)]
	for i := range list {
		list[i] = "spoilt"
	}
}

// TestPartsStay: P2: Join changes neither its parts nor their spare room, whatever it answers.
func TestPartsStay(t *testing.T) {
	for _, parts := range [][]string{{}, {"a"}, {"b", "a"}, {"a", "", "c"}, {"/"}, many(8, "x"), many(9, "x"), many(8, x(48)), append(many(9, "x"), "")} {
		room := append(slices.Clone(parts), "room", "for", "more", "names")
		was := slices.Clone(room)
		Join(room[:len(parts)]...)
		if !slices.Equal(room, was) {
			t.Errorf("P2: Join(%q) left %q of %q", parts, room, was)
		}
	}
}

// TestPartsAreNotKept: P2: parts that change behind Join do not change what it answered.
func TestPartsAreNotKept(t *testing.T) {
	parts := []string{"a", "b"}
	s, _ := Join(parts...)
	spoil(parts)
	if s != "/a/b" {
		t.Errorf("P2: Join: %q behind a change of its parts", s)
	}
	joins(t, "/a/b", "a", "b")
}

// TestNamesAreNew: P2: what is done to Split's names is not seen in the next answer.
func TestNamesAreNew(t *testing.T) {
	for _, s := range rightPaths() {
		first, _ := Split(s)
		second, _ := Split(s)
		want := slices.Clone(first)
		spoil(first)
		if !slices.Equal(second, want) {
			t.Errorf("P2: Split(%q): %q behind a change of another answer; want %q", s, second, want)
		}
		splits(t, s, want...)
		joins(t, s, want...)
		under(t, s, s, true)
	}
}

// within tells whether part stands in the memory of s.
func within(part, s string) bool {
	at := uintptr(unsafe.Pointer(unsafe.StringData(part)))
	from := uintptr(unsafe.Pointer(unsafe.StringData(s)))
	return len(part) > 0 && at >= from && at < from+uintptr(len(s))
}

// TestTextsAreNew: P2: no text of an answer stands in the memory of one that was handed in.
func TestTextsAreNew(t *testing.T) {
	for _, s := range []string{"/mail", "/mail/new", deep(8, 31), deep(5, 48) + "/" + x(10)} {
		names, _ := Split(s)
		for _, name := range names {
			if within(name, s) {
				t.Errorf("P2: Split(%q) answers a piece of what was handed in: %q", s, name)
			}
		}
		up, name, e := Parent(s)
		if e != api.OK || within(up, s) || within(name, s) {
			t.Errorf("P2: Parent(%q) answers a piece of what was handed in: %q, %q, %v", s, up, name, e)
		}
		joined, _ := Join(names...)
		for _, name := range names {
			if within(name, joined) {
				t.Errorf("P2: Join answers its part %q", name)
			}
		}
	}
}
