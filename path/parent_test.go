package path

import (
	"strings"
	"testing"

	"mailbag/api"
)

func parented(t *testing.T, s, up, name string) {
	t.Helper()
	if gotUp, gotName, e := Parent(s); e != api.OK || gotUp != up || gotName != name {
		t.Errorf("P1001: Parent(%q): %q, %q, %v; want %q, %q", s, gotUp, gotName, e, up, name)
	}
}

// orphan asks for that error, and for nothing beside it (P4).
func orphan(t *testing.T, s string, want api.Errno) {
	t.Helper()
	if up, name, e := Parent(s); e != want || up != "" || name != "" {
		t.Errorf("P1001: Parent(%q): %q, %q, %v; want %v and none", s, up, name, e, want)
	}
}

func TestParentOfPaths(t *testing.T) {
	parented(t, "/a", "/", "a")
	parented(t, "/mail", "/", "mail")
	parented(t, "/a/b", "/a", "b")
	parented(t, "/a/a", "/a", "a")
	parented(t, "/mail/new/0000000001.m", "/mail/new", "0000000001.m")
	parented(t, "/.../...", "/...", "...")
	parented(t, "/1/2/3/4/5/6/7/8", "/1/2/3/4/5/6/7", "8")
	parented(t, "/"+x(48), "/", x(48))
	for n := 2; n <= 8; n++ {
		parented(t, deep(n, 31), deep(n-1, 31), x(31))
	}
	parented(t, deep(5, 48)+"/"+x(10), deep(5, 48), x(10))
}

func TestParentOfRoot(t *testing.T) {
	orphan(t, "/", api.ErrName)
}

func TestParentOfNoPath(t *testing.T) {
	for _, s := range []string{
		"", "a", "a/b", "//", "//a", "/a/", "/a//b", "/a/b/", "/.", "/..", "/./a", "/a/..", "/a b", "/a/b ", "/a/\x7F",
		"/" + x(49), "/a/" + x(49), "/" + x(49) + "/a", deep(8, 1) + "/", deep(8, 1) + "/ ",
		x(256), strings.Repeat("/", 256),
	} {
		orphan(t, s, api.ErrName)
	}
	for _, s := range []string{
		deep(9, 1), deep(128, 1), deep(9, 27),
		x(257), "/" + x(256), strings.Repeat("/", 257), deep(5, 48) + "/" + x(11), deep(7, 31) + "/" + x(32), x(1 << 16),
	} {
		orphan(t, s, api.ErrLong)
	}
}

// TestParentTellsSplit: P6: whatever Split refuses, Parent refuses by the same error.
func TestParentTellsSplit(t *testing.T) {
	for _, s := range texts(4) {
		names, want := Split(s)
		if want == api.OK && len(names) > 0 {
			continue
		}
		if want == api.OK {
			want = api.ErrName
		}
		orphan(t, s, want)
	}
}

// TestParentOfJoin: its answers, joined, are the path once more.
func TestParentOfJoin(t *testing.T) {
	for _, s := range texts(5) {
		up, name, e := Parent(s)
		if e != api.OK {
			continue
		}
		names, e := Split(up)
		if e != api.OK {
			t.Errorf("P1001: Parent(%q): %q is no path: %v", s, up, e)
		}
		joins(t, s, append(names, name)...)
	}
}
