package addr

import (
	"strings"
	"testing"
)

func isLocal(t *testing.T, s string, want bool) {
	t.Helper()
	if got := Local(s); got != want {
		t.Errorf("P1401: Local(%q): %v; want %v", s, got, want)
	}
}

func TestLocal(t *testing.T) {
	for _, s := range []string{"a", "a b", " ", "a.b", ".", "..", ".a", "a.", "a@b", "<a>", "\"", "\\", "\"a\"", "()", "~"} {
		isLocal(t, s, true)
	}
	for _, s := range []string{"", "a\r\n", "\ta", "é", "\x00"} {
		isLocal(t, s, false)
	}
}

func TestLocalLength(t *testing.T) {
	for n, want := range map[int]bool{0: false, 1: true, 2: true, 63: true, 64: true, 65: false, 66: false, 1000: false} {
		for _, c := range []string{"x", ".", "\"", "\\", " ", "~"} {
			isLocal(t, strings.Repeat(c, n), want)
		}
	}
}

// TestLocalBytes: each byte alone, first, between, last, and as the 64th.
func TestLocalBytes(t *testing.T) {
	long := strings.Repeat("x", 63)
	for i := range 256 {
		c := string([]byte{byte(i)})
		want := i >= 0x20 && i <= 0x7E
		for _, s := range []string{c, c + "a", "a" + c + "b", "a" + c, long + c, c + long} {
			isLocal(t, s, want)
		}
	}
}
