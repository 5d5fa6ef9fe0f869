package path

import (
	"slices"
	"strings"
	"testing"

	"mailbag/api"
)

// x is a name of n bytes.
func x(n int) string { return strings.Repeat("x", n) }

// deep is a path of n names, of size bytes each.
func deep(n, size int) string { return strings.Repeat("/"+x(size), n) }

// splits asks for those names.
func splits(t *testing.T, s string, want ...string) {
	t.Helper()
	if got, e := Split(s); e != api.OK || !slices.Equal(got, want) {
		t.Errorf("P1001: Split(%q): %q, %v; want %q", s, got, e, want)
	}
}

// refused asks for that error, and for no names beside it (P4).
func refused(t *testing.T, s string, want api.Errno) {
	t.Helper()
	if got, e := Split(s); e != want || len(got) != 0 {
		t.Errorf("P1001: Split(%q): %q, %v; want %v and none", s, got, e, want)
	}
}

func TestSplitOfPaths(t *testing.T) {
	splits(t, "/")
	splits(t, "/a", "a")
	splits(t, "/a/b", "a", "b")
	splits(t, "/mail/new/0000000001.m", "mail", "new", "0000000001.m")
	splits(t, "/b/a/b/a", "b", "a", "b", "a")
	splits(t, "/1/2/3/4/5/6/7/8", "1", "2", "3", "4", "5", "6", "7", "8")
	splits(t, "/user@example.org/a:2,S/~/!/\\", "user@example.org", "a:2,S", "~", "!", "\\")
}

func TestSplitOfSlashes(t *testing.T) {
	for _, s := range []string{
		"", "a", "a/", "a/b", "a/b/", " ", " /a", "\x00/a", ".", "..", "./a", "\\a",
		"//", "///", "//a", "///a", "//a/b",
		"/a//b", "/a///b", "/a/b//c", "/a//b/c",
		"/a/", "/a//", "/a///", "/a/b/", "/a/b//",
		"/1/2/3/4/5/6/7/", "/1/2/3/4/5/6/7/8/", "/1/2/3/4/5/6/7//8",
		"/ ", "/a ", "/ a", "/a /b", "/a/ b", "/a/b ", "/a\n", "/a\r\n/b", "/a\x00",
	} {
		refused(t, s, api.ErrName)
	}
}

// TestSplitOfBytes has each byte in a name, at each place of a path.
func TestSplitOfBytes(t *testing.T) {
	for c := range 256 {
		if c == '/' || c == '.' {
			continue // these have tests of their own
		}
		one := string([]byte{byte(c)})
		for _, s := range []string{one, "m" + one + "m", one + "m", "m" + one} {
			if c < 0x21 || c > 0x7E {
				refused(t, "/"+s, api.ErrName)
				refused(t, "/"+s+"/b", api.ErrName)
				refused(t, "/a/"+s+"/b", api.ErrName)
				refused(t, "/a/"+s, api.ErrName)
				continue
			}
			splits(t, "/"+s, s)
			splits(t, "/"+s+"/b", s, "b")
			splits(t, "/a/"+s+"/b", "a", s, "b")
			splits(t, "/a/"+s, "a", s)
		}
		refused(t, one+"a/b", api.ErrName)
		refused(t, one+"/a/b", api.ErrName)
	}
	for _, s := range []string{"é", "日本", "\xFF\xFE", "a\u2025", "\uFF0F"} {
		refused(t, "/"+s, api.ErrName)
		refused(t, "/a/"+s+"/b", api.ErrName)
	}
}

func TestSplitOfDots(t *testing.T) {
	for _, s := range []string{".", ".."} {
		refused(t, "/"+s, api.ErrName)
		refused(t, "/"+s+"/b", api.ErrName)
		refused(t, "/a/"+s, api.ErrName)
		refused(t, "/a/"+s+"/b", api.ErrName)
		refused(t, "/a/"+s+"/", api.ErrName)
	}
	for _, s := range []string{"...", "....", ".a", "..a", "a.", "a..", "a.b", "a..b"} {
		splits(t, "/"+s, s)
		splits(t, "/"+s+"/b", s, "b")
		splits(t, "/a/"+s, "a", s)
		splits(t, "/a/"+s+"/b", "a", s, "b")
	}
}

func TestSplitOfNameSizes(t *testing.T) {
	for size := 1; size <= 48; size++ {
		splits(t, "/"+x(size), x(size))
		splits(t, "/"+x(size)+"/a", x(size), "a")
		splits(t, "/a/"+x(size), "a", x(size))
		splits(t, "/a/"+x(size)+"/b", "a", x(size), "b")
	}
	for _, size := range []int{49, 50, 64, 100, 253} {
		refused(t, "/"+x(size), api.ErrName)
		refused(t, "/"+x(size)+"/a", api.ErrName)
		refused(t, "/a/"+x(size), api.ErrName)
	}
	refused(t, "/"+x(255), api.ErrName)
	refused(t, "/a/"+x(49)+"/b", api.ErrName)
	refused(t, deep(4, 48)+"/"+x(49), api.ErrName)
}

// TestSplitOfMaxPath has paths of 255 to 258 bytes, of few names and of many.
func TestSplitOfMaxPath(t *testing.T) {
	for last := 9; last <= 12; last++ {
		s := deep(5, 48) + "/" + x(last)
		if last <= 10 {
			splits(t, s, x(48), x(48), x(48), x(48), x(48), x(last))
		} else {
			refused(t, s, api.ErrLong)
		}
	}
	for last := 30; last <= 33; last++ {
		s := deep(7, 31) + "/" + x(last)
		if last <= 31 {
			splits(t, s, x(31), x(31), x(31), x(31), x(31), x(31), x(31), x(last))
		} else {
			refused(t, s, api.ErrLong)
		}
	}
}

// TestSplitOfManyBytes has sizes, too, that are small again in a byte or in two.
func TestSplitOfManyBytes(t *testing.T) {
	for _, size := range []int{257, 258, 300, 512, 513, 65536, 65537, 65538, 1 << 20} {
		refused(t, x(size), api.ErrLong)
		refused(t, "/"+x(size-1), api.ErrLong)
		refused(t, strings.Repeat("/", size), api.ErrLong)
		refused(t, strings.Repeat("/a", size/2+1), api.ErrLong)
		refused(t, strings.Repeat("\x00", size), api.ErrLong)
	}
}

func TestSplitOfMaxDepth(t *testing.T) {
	for n := 1; n <= 8; n++ {
		splits(t, deep(n, 1), slices.Repeat([]string{"x"}, n)...)
		splits(t, deep(n, 31), slices.Repeat([]string{x(31)}, n)...)
	}
	for n := 9; n <= 128; n++ {
		refused(t, deep(n, 1), api.ErrLong)
	}
	refused(t, deep(9, 27), api.ErrLong)
}

// TestSplitOrder: P6: ErrLong of the bytes, ErrName of any name, ErrLong of the names.
func TestSplitOrder(t *testing.T) {
	for _, s := range []string{
		x(257), "/" + x(256), strings.Repeat("/", 257), strings.Repeat(" ", 257),
		deep(128, 1) + "/", deep(128, 1) + " ", "x" + deep(128, 1),
	} {
		refused(t, s, api.ErrLong)
	}
	for _, s := range []string{
		x(256), "/" + x(255), strings.Repeat("/", 256), strings.Repeat(" ", 256),
		deep(127, 1) + "//", deep(127, 1) + "/ ", "xx" + deep(127, 1), "//" + deep(127, 1), "/ " + deep(127, 1),
		"a" + deep(9, 1), "/" + deep(9, 1), "/." + deep(8, 1), deep(8, 1) + "/", deep(8, 1) + "/.", deep(8, 1) + "/..",
		deep(8, 1) + "/" + x(49), deep(9, 1) + "/", deep(9, 1) + "//", deep(4, 1) + "/" + deep(8, 1), deep(50, 1) + "/ " + deep(50, 1),
	} {
		refused(t, s, api.ErrName)
	}
	refused(t, deep(128, 1), api.ErrLong)
}
