package path

import (
	"slices"
	"strings"
	"testing"

	"mailbag/api"
)

func joins(t *testing.T, want string, parts ...string) {
	t.Helper()
	if got, e := Join(parts...); e != api.OK || got != want {
		t.Errorf("P1001: Join(%q): %q, %v; want %q", parts, got, e, want)
	}
}

// unjoined asks for that error, and for no path beside it (P4).
func unjoined(t *testing.T, want api.Errno, parts ...string) {
	t.Helper()
	if got, e := Join(parts...); e != want || got != "" {
		t.Errorf("P1001: Join(%q): %q, %v; want %v and none", parts, got, e, want)
	}
}

func many(n int, name string) []string { return slices.Repeat([]string{name}, n) }

func TestJoinOfNames(t *testing.T) {
	joins(t, "/")
	joins(t, "/", []string{}...)
	joins(t, "/a", "a")
	joins(t, "/a/b", "a", "b")
	joins(t, "/b/a/b", "b", "a", "b")
	joins(t, "/mail/new/0000000001.m", "mail", "new", "0000000001.m")
	joins(t, "/.../.a/a.", "...", ".a", "a.")
	joins(t, "/1/2/3/4/5/6/7/8", "1", "2", "3", "4", "5", "6", "7", "8")
}

func TestJoinOfMaxDepth(t *testing.T) {
	for n := 1; n <= 8; n++ {
		joins(t, deep(n, 1), many(n, "x")...)
		joins(t, deep(n, 31), many(n, x(31))...)
	}
	for _, n := range []int{9, 10, 16, 255, 256, 257, 264, 65536, 65537} {
		unjoined(t, api.ErrLong, many(n, "x")...)
	}
}

// TestJoinOfMaxPath has paths of 255 to 258 bytes, of few names and of many, whichever name is the longer one.
func TestJoinOfMaxPath(t *testing.T) {
	for last := 9; last <= 12; last++ {
		parts := append(many(5, x(48)), x(last))
		for turn := range parts {
			turned := append(slices.Clone(parts[turn:]), parts[:turn]...)
			if last <= 10 {
				joins(t, "/"+strings.Join(turned, "/"), turned...)
			} else {
				unjoined(t, api.ErrLong, turned...)
			}
		}
	}
	for last := 30; last <= 33; last++ {
		parts := append(many(7, x(31)), x(last))
		if last <= 31 {
			joins(t, deep(7, 31)+"/"+x(last), parts...)
		} else {
			unjoined(t, api.ErrLong, parts...)
		}
	}
	unjoined(t, api.ErrLong, many(6, x(48))...)
	unjoined(t, api.ErrLong, many(8, x(48))...)
}

// noNames are parts that are no names.
func noNames() []string {
	return []string{
		"", "/", "//", ".", "..", "/a", "a/", "a/b", "/a/b", "a//b", "./a",
		" ", "a b", " a", "a ", "a\n", "a\x00", "\x00", "\x1F", "\x20", "\x7F", "\x80", "\xFF", "é",
		x(49), x(50), x(256), x(257), x(256 + 48), x(65536 + 1),
	}
}

// TestJoinOfNoNames has each of them at the first place, in the midst and at the last.
func TestJoinOfNoNames(t *testing.T) {
	for _, no := range noNames() {
		unjoined(t, api.ErrName, no)
		unjoined(t, api.ErrName, no, no)
		for n := 2; n <= 8; n++ {
			for at := range n {
				parts := many(n, "x")
				parts[at] = no
				unjoined(t, api.ErrName, parts...)
			}
		}
	}
}

func TestJoinOfBytes(t *testing.T) {
	for c := range 256 {
		one := string([]byte{byte(c)})
		if c >= 0x21 && c <= 0x7E && c != '/' {
			joins(t, "/a"+one+"/b/c", "a"+one, "b", "c")
			joins(t, "/a/"+one+"b/c", "a", one+"b", "c")
			joins(t, "/a/b/c"+one+"c", "a", "b", "c"+one+"c")
			continue
		}
		unjoined(t, api.ErrName, "a"+one, "b", "c")
		unjoined(t, api.ErrName, "a", one+"b", "c")
		unjoined(t, api.ErrName, "a", "b", "c"+one+"c")
	}
}

func TestJoinOfNameSizes(t *testing.T) {
	for size := 1; size <= 48; size++ {
		joins(t, "/"+x(size), x(size))
		joins(t, "/a/"+x(size)+"/b", "a", x(size), "b")
	}
}

// TestJoinOrder: P6: ErrName of any part, wherever it stands, ahead of ErrLong.
func TestJoinOrder(t *testing.T) {
	for _, no := range noNames() {
		for _, n := range []int{9, 10, 40} {
			for at := range n {
				parts := many(n, "x")
				parts[at] = no
				unjoined(t, api.ErrName, parts...)
			}
		}
		for _, n := range []int{7, 8, 9} {
			for at := range n {
				parts := many(n, x(48))
				parts[at] = no
				unjoined(t, api.ErrName, parts...)
			}
		}
	}
}

// TestJoinOfSplit: what Split answers is joined to the same path, and what Join answers is cut to the same names.
func TestJoinOfSplit(t *testing.T) {
	for _, s := range []string{"/", "/a", "/a/b", "/.../.a", deep(8, 1), deep(8, 31), deep(5, 48) + "/" + x(10), "/1/2/3/4/5/6/7/8"} {
		names, e := Split(s)
		if e != api.OK {
			t.Errorf("P1001: Split(%q): %v", s, e)
		}
		joins(t, s, names...)
	}
	for _, parts := range [][]string{nil, {"a"}, {"a", "b"}, {"~", "!", "..."}, many(8, "x"), many(8, x(31)), append(many(5, x(48)), x(10))} {
		s, e := Join(parts...)
		if e != api.OK {
			t.Errorf("P1001: Join(%q): %v", parts, e)
		}
		splits(t, s, parts...)
	}
}
