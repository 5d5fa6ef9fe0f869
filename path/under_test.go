package path

import (
	"strings"
	"testing"
)

func under(t *testing.T, a, b string, want bool) {
	t.Helper()
	if got := Under(a, b); got != want {
		t.Errorf("P1001: Under(%q, %q): %v; want %v", a, b, got, want)
	}
}

func rightPaths() []string {
	return []string{"/", "/a", "/ab", "/a/b", "/a/b/c", "/b", "/...", deep(1, 31), deep(7, 31), deep(8, 31), deep(8, 1), "/" + x(48), deep(5, 48) + "/" + x(10)}
}

func wrongPaths() []string {
	return []string{
		"", "a", "ab", "a/b", "//", "//a", "/a/", "/a//", "/a//b", "/a/b/", "/.", "/..", "/a/.", "/a/..", "/a/../b", "/a ", "/ a", "/a/\x7F",
		"/" + x(49), deep(9, 1), deep(8, 31) + "x", deep(8, 31) + "/", x(257), strings.Repeat("/", 257), strings.Repeat("/a", 300),
	}
}

func TestUnderItself(t *testing.T) {
	for _, s := range rightPaths() {
		under(t, s, s, true)
	}
}

func TestUnderRoot(t *testing.T) {
	for _, s := range rightPaths() {
		under(t, "/", s, true)
		under(t, s, "/", s == "/")
	}
}

func TestUnderBelowAndAbove(t *testing.T) {
	for _, c := range [][2]string{
		{"/a", "/a/b"}, {"/a", "/a/b/c"}, {"/a/b", "/a/b/c"}, {"/a", "/a/a"}, {"/a/a", "/a/a/a"}, {"/...", "/.../a"},
		{"/1", "/1/2/3/4/5/6/7/8"}, {"/1/2/3/4/5/6/7", "/1/2/3/4/5/6/7/8"}, {"/1/2/3/4", "/1/2/3/4/5/6/7/8"},
		{deep(7, 31), deep(8, 31)}, {deep(1, 31), deep(8, 31)}, {deep(5, 48), deep(5, 48) + "/" + x(10)},
	} {
		under(t, c[0], c[1], true)
		under(t, c[1], c[0], false)
	}
}

func TestUnderBeside(t *testing.T) {
	for _, c := range [][2]string{
		{"/a", "/b"}, {"/a/b", "/a/c"}, {"/a/b", "/c/b"}, {"/a/b/c", "/a/d/c"}, {"/a", "/b/a"}, {"/a", "/b/a/a"}, {"/a/b", "/b/a"},
		{"/a", "/A"}, {"/a/b", "/a/B/c"}, {"/a/b", "/b/b/c"}, {"/a/b", "/a/c/b"}, {"/b/c", "/a/b/c"}, {"/1/2/3/4/5/6/7/8", "/1/2/3/4/5/6/7/9"},
	} {
		under(t, c[0], c[1], false)
		under(t, c[1], c[0], false)
	}
}

// TestUnderOfSameBytes has paths of which one begins with the bytes of the other alone.
func TestUnderOfSameBytes(t *testing.T) {
	for _, c := range [][2]string{
		{"/a", "/ab"}, {"/a", "/ab/c"}, {"/a", "/a.b"}, {"/a", "/a."}, {"/a", "/aa"}, {"/a", "/aa/a"}, {"/a", "/a!/b"}, {"/a", "/a-"},
		{"/a/b", "/a/bc"}, {"/a/b", "/a/bc/d"}, {"/a/b", "/a/b.c"}, {"/" + x(47), "/" + x(48)}, {"/.a", "/.ab"}, {"/...", "/...."},
		{"/1/2/3/4/5/6/7/8", "/1/2/3/4/5/6/7/88"},
	} {
		under(t, c[0], c[1], false)
		under(t, c[1], c[0], false)
	}
}

func TestUnderOfNoPath(t *testing.T) {
	for _, no := range wrongPaths() {
		under(t, no, no, false)
		for _, s := range rightPaths() {
			under(t, s, no, false)
			under(t, no, s, false)
		}
		for _, other := range wrongPaths() {
			under(t, no, other, false)
		}
		under(t, no, no+"/a", false)
		under(t, no, no+"a", false)
		if no != "" { // "/a" is a path
			under(t, no+"/a", no+"/a/b", false)
		}
	}
}
