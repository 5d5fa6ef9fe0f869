package dir

import (
	"strings"
	"testing"
)

func isName(t *testing.T, s string, want bool) {
	t.Helper()
	if got := Name(s); got != want {
		t.Errorf("P901: Name(%q): %v; want %v", s, got, want)
	}
}

// TestNameOfSizes has sizes, too, that are small again in a byte.
func TestNameOfSizes(t *testing.T) {
	for size := range 70 {
		isName(t, strings.Repeat("x", size), size >= 1 && size <= 48)
	}
	for _, size := range []int{255, 256, 257, 256 + 48, 512, 65536 + 1, 1 << 20} {
		isName(t, strings.Repeat("x", size), false)
	}
}

// TestNameOfBytes has each byte alone, and at each place of names.
func TestNameOfBytes(t *testing.T) {
	for x := range 256 {
		want := x >= 0x21 && x <= 0x7E && x != '/'
		one := string([]byte{byte(x)})
		isName(t, one, want && x != '.')
		isName(t, one+one+one, want)
		isName(t, one+"mail", want)
		isName(t, "ma"+one+"il", want)
		isName(t, "mail"+one, want)
		isName(t, strings.Repeat("m", 47)+one, want)
		isName(t, one+strings.Repeat("m", 47), want)
		isName(t, strings.Repeat("m", 48)+one, false)
	}
}

func TestNameOfDots(t *testing.T) {
	for _, s := range []string{".", "..", "/", "./", "../", "/.", "./.", "//", ". ", " .", "..\x00"} {
		isName(t, s, false)
	}
	for _, s := range []string{"...", "....", ".a", "..a", "...a", "a.", "a..", "a.b", ".-", "-.", "..!", strings.Repeat(".", 48)} {
		isName(t, s, true)
	}
	isName(t, strings.Repeat(".", 49), false)
}

func TestNameOfTexts(t *testing.T) {
	for _, s := range []string{"a", "mail", "0000000001.new", "~", "!", "\\", "user@example.org", "a:2,S", "*", "\"q\"", "<>"} {
		isName(t, s, true)
	}
	for _, s := range []string{"", "a/b", "/mail", "mail/", "a b", " a", "a ", "a\tb", "a\n", "a\r\n", "\x00", "a\x00", "\x7F", "é", "日本", "\xFF\xFE", "\u2025"} {
		isName(t, s, false)
	}
}
