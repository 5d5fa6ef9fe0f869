package dir

import (
	"math"
	"slices"
	"testing"

	"mailbag/api"
)

// wrongNames are texts that no slot has.
var wrongNames = []string{"", ".", "..", "/", "a/b", " ", "a b", "\x7F", "\x80", "é", "\x00", letters(49), letters(57), letters(300)}

var wrongInodes = []int{math.MinInt, -65536, -65535, -1, 0, 65536, 65537, 1 << 17, math.MaxInt}

func finds(t *testing.T, s Slots, name string, inode int, ok bool) {
	t.Helper()
	if got, is := s.Find(name); got != inode || is != ok {
		t.Errorf("P902: Find(%q) in %v: %d, %v; want %d, %v", name, s, got, is, inode, ok)
	}
}

// puts holds what Put answers, and that s stays as it was.
func puts(t *testing.T, s Slots, name string, inode int, want Slots, more int, e api.Errno) {
	t.Helper()
	was := slices.Clone(s)
	got, n, err := s.Put(name, inode)
	if !slices.Equal(got, want) || n != more || err != e {
		t.Errorf("P902: Put(%q, %d) to %v: %v, %d, %v; want %v, %d, %v", name, inode, s, got, n, err, want, more, e)
	}
	if err == api.OK && len(got.Bytes())-len(s.Bytes()) != n {
		t.Errorf("P902: Put(%q) to %v: %d bytes more, but %d to %d", name, s, n, len(s.Bytes()), len(got.Bytes()))
	}
	stays(t, s, was)
}

func takes(t *testing.T, s Slots, name string, want Slots, inode int, e api.Errno) {
	t.Helper()
	was := slices.Clone(s)
	if got, n, err := s.Take(name); !slices.Equal(got, want) || n != inode || err != e {
		t.Errorf("P902: Take(%q) from %v: %v, %d, %v; want %v, %d, %v", name, s, got, n, err, want, inode, e)
	}
	stays(t, s, was)
}

func moves(t *testing.T, s Slots, old, name string, want Slots, e api.Errno) {
	t.Helper()
	was := slices.Clone(s)
	if got, err := s.Move(old, name); !slices.Equal(got, want) || err != e {
		t.Errorf("P902: Move(%q, %q) in %v: %v, %v; want %v, %v", old, name, s, got, err, want, e)
	}
	stays(t, s, was)
}

func stays(t *testing.T, s, was Slots) {
	t.Helper()
	if !slices.Equal(s, was) {
		t.Errorf("P2, P5: slots became %v; they were %v", s, was)
	}
}

func named(t *testing.T, s Slots, want ...string) {
	t.Helper()
	if got := s.Names(); !slices.Equal(got, want) {
		t.Errorf("P902: Names of %v: %q; want %q", s, got, want)
	}
}

func TestFind(t *testing.T) {
	s := holed(listed(20), 0, 8, 19)
	for i, e := range s {
		if e.Name != "" {
			finds(t, s, e.Name, 100+i, true)
		}
	}
	for _, name := range append([]string{"m0", "m8", "m19", "m", "m1x", "M1", "1", "m20"}, wrongNames...) {
		finds(t, s, name, 0, false)
		finds(t, nil, name, 0, false)
		finds(t, Slots{}, name, 0, false)
		finds(t, make(Slots, 8), name, 0, false)
	}
	finds(t, Slots{{"a", 65535}, {"A", 1}}, "a", 65535, true)
	finds(t, Slots{{"a", 65535}, {"A", 1}}, "A", 1, true)
	finds(t, Slots{{letters(48), 5}}, letters(48), 5, true)
	finds(t, Slots{{letters(48), 5}}, letters(47), 0, false)
}

// TestPutBehindAll has each number of slots around the edges of blocks.
func TestPutBehindAll(t *testing.T) {
	for n := range 34 {
		more := 0
		if n%8 == 0 {
			more = 512
		}
		puts(t, listed(n), "new", 7, append(listed(n), Entry{"new", 7}), more, api.OK)
	}
	puts(t, Slots{}, "new", 7, Slots{{"new", 7}}, 512, api.OK)
}

// TestPutIntoTheFirstFreeSlot: no bytes more, wherever that stands.
func TestPutIntoTheFirstFreeSlot(t *testing.T) {
	for _, n := range []int{1, 2, 7, 8, 9, 16, 17} {
		for first := range n {
			for last := first; last < n; last++ {
				s := holed(listed(n), first, last)
				want := slices.Clone(s)
				want[first] = Entry{"new", 7}
				puts(t, s, "new", 7, want, 0, api.OK)
			}
		}
	}
	puts(t, make(Slots, 8), "new", 7, append(Slots{{"new", 7}}, make(Slots, 7)...), 0, api.OK)
}

func TestPutOfNames(t *testing.T) {
	s := holed(listed(3), 1)
	for _, name := range []string{"a", "~", "!", "...", ".a", "m", "m1", "M0", letters(48)} {
		puts(t, s, name, 1, Slots{s[0], {name, 1}, s[2]}, 0, api.OK)
	}
	for _, name := range wrongNames {
		puts(t, s, name, 1, nil, 0, api.ErrName)
		puts(t, nil, name, 1, nil, 0, api.ErrName)
	}
}

func TestPutOfInodes(t *testing.T) {
	s := listed(2)
	for _, inode := range []int{1, 2, 255, 256, 65534, 65535} {
		puts(t, s, "new", inode, append(listed(2), Entry{"new", inode}), 0, api.OK)
	}
	for _, inode := range wrongInodes {
		puts(t, s, "new", inode, nil, 0, api.ErrArg)
		puts(t, nil, "new", inode, nil, 0, api.ErrArg)
	}
	puts(t, s, "new", s[0].Inode, append(listed(2), Entry{"new", s[0].Inode}), 0, api.OK)
}

// TestPutOfWhatIsThere: at each place, also with a free slot ahead of it or behind.
func TestPutOfWhatIsThere(t *testing.T) {
	for i, e := range listed(9) {
		puts(t, listed(9), e.Name, 7, nil, 0, api.ErrExists)
		puts(t, listed(9), e.Name, e.Inode, nil, 0, api.ErrExists)
		puts(t, holed(listed(9), (i+1)%9), e.Name, 7, nil, 0, api.ErrExists)
	}
}

// TestPutTellsTheFirstError: P6.
func TestPutTellsTheFirstError(t *testing.T) {
	for _, inode := range wrongInodes {
		puts(t, listed(8), "a/b", inode, nil, 0, api.ErrName)
		puts(t, listed(8), "", inode, nil, 0, api.ErrName)
		puts(t, listed(8), "m3", inode, nil, 0, api.ErrArg)
	}
}

func TestTake(t *testing.T) {
	for _, n := range []int{1, 2, 8, 9, 17} {
		for i, e := range listed(n) {
			takes(t, listed(n), e.Name, holed(listed(n), i), e.Inode, api.OK)
		}
	}
	takes(t, Slots{{"only", 65535}}, "only", Slots{{}}, 65535, api.OK)
	takes(t, Slots{{}, {"only", 1}, {}}, "only", make(Slots, 3), 1, api.OK)
}

func TestTakeOfWhatIsNotThere(t *testing.T) {
	for _, s := range []Slots{nil, {}, {{}}, make(Slots, 8), listed(9), holed(listed(9), 0, 8)} {
		for _, name := range append([]string{"new", "m", "m1x", "M1"}, wrongNames...) {
			takes(t, s, name, nil, 0, api.ErrNone)
		}
	}
	takes(t, holed(listed(9), 4), "m4", nil, 0, api.ErrNone)
}

// TestTakeAndPut: what was taken leaves room, first places first, and may come again.
func TestTakeAndPut(t *testing.T) {
	s := listed(8)
	for _, name := range []string{"m7", "m0", "m4"} {
		s, _, _ = s.Take(name)
	}
	takes(t, s, "m0", nil, 0, api.ErrNone)
	for i, place := range []int{0, 4, 7} {
		next, more, e := s.Put([]string{"m4", "m7", "m0"}[i], 500+i)
		if e != api.OK || more != 0 || next[place].Inode != 500+i || len(next) != 8 {
			t.Errorf("P902: Put to %v: %v, %d, %v", s, next, more, e)
		}
		s = next
	}
	puts(t, s, "new", 7, append(slices.Clone(s), Entry{"new", 7}), 512, api.OK)
}

func TestMove(t *testing.T) {
	for _, n := range []int{1, 2, 8, 9} {
		for i, e := range listed(n) {
			want := listed(n)
			want[i].Name = "new"
			moves(t, listed(n), e.Name, "new", want, api.OK)
			moves(t, listed(n), e.Name, e.Name, listed(n), api.OK)
			for j, other := range listed(n) {
				if i != j {
					moves(t, listed(n), e.Name, other.Name, nil, api.ErrExists)
				}
			}
		}
	}
	for _, name := range []string{"...", ".a", "~", "M1", letters(48)} {
		moves(t, Slots{{}, {"m1", 3}, {}}, "m1", name, Slots{{}, {name, 3}, {}}, api.OK)
	}
	moves(t, holed(listed(3), 0), "m2", "m0", Slots{{}, {"m1", 101}, {"m0", 102}}, api.OK)
}

func TestMoveToWhatIsNoName(t *testing.T) {
	for _, s := range []Slots{listed(1), listed(9), holed(listed(9), 5)} {
		for _, name := range wrongNames {
			moves(t, s, "m0", name, nil, api.ErrName)
		}
	}
}

// TestMoveOfWhatIsNotThere: P6: ahead of all that is wrong with the other name.
func TestMoveOfWhatIsNotThere(t *testing.T) {
	for _, s := range []Slots{nil, {}, {{}}, make(Slots, 8), listed(9), holed(listed(9), 0, 8)} {
		for _, old := range append([]string{"new", "m", "M1"}, wrongNames...) {
			for _, name := range append([]string{"other", "m1", old}, wrongNames...) {
				moves(t, s, old, name, nil, api.ErrNone)
			}
		}
	}
}

func TestNames(t *testing.T) {
	named(t, nil)
	named(t, Slots{})
	named(t, make(Slots, 9))
	named(t, Slots{{"only", 1}}, "only")
	named(t, Slots{{"b", 1}, {}, {"a", 9}, {"c", 2}, {}}, "a", "b", "c")
	named(t, Slots{{}, {"m10", 1}, {"m9", 2}, {"m", 3}, {"M", 4}, {"~", 5}, {"!", 6}, {"...", 7}, {"m1", 8}}, "!", "...", "M", "m", "m1", "m10", "m9", "~")
	var names []string
	for _, e := range listed(40) {
		names = append(names, e.Name)
	}
	slices.Sort(names)
	named(t, listed(40), names...)
}

// TestWrongSlotsEnd: of slots with names that are none, or twice, each call ends, and changes nothing.
func TestWrongSlotsEnd(t *testing.T) {
	for _, s := range []Slots{{{"a", 1}, {"a", 2}}, {{"a/b", 1}, {letters(300), -5}}, {{"", 7}, {"x", 0}}, {{".", math.MinInt}, {"..", math.MaxInt}, {"\x00", 1 << 20}}} {
		was := slices.Clone(s)
		for _, name := range append([]string{"a", "x", "new"}, wrongNames...) {
			s.Find(name)
			s.Put(name, 5)
			s.Take(name)
			for _, other := range append([]string{"a", "x", "other"}, wrongNames...) {
				s.Move(name, other)
			}
		}
		s.Names()
		Read(s.Bytes())
		stays(t, s, was)
	}
}
