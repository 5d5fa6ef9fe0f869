package addr

import (
	"strings"
	"testing"

	"mailbag/api"
)

func lowers(t *testing.T, s, want string) {
	t.Helper()
	if got := Lower(s); got != want {
		t.Errorf("P1401: Lower(%q): %q; want %q", s, got, want)
	}
}

func TestLower(t *testing.T) {
	for s, want := range map[string]string{
		"": "", "a": "a", "A": "a", "Mail.EXAMPLE.org": "mail.example.org", "AaZz": "aazz", "@[`{": "@[`{", "AbZ[9-": "abz[9-",
		"\xc3\x89": "\xc3\x89", "\xc3\x89A": "\xc3\x89a", "\u212a": "\u212a", "\u0130": "\u0130", "\xff\xfeB": "\xff\xfeb", "\x00A\x00": "\x00a\x00", "A\r\nB": "a\r\nb",
	} {
		lowers(t, s, want)
	}
	const capitals, small = "ABCDEFGHIJKLMNOPQRSTUVWXYZ", "abcdefghijklmnopqrstuvwxyz"
	lowers(t, capitals, small)
	lowers(t, small, small)
	lowers(t, strings.Repeat(capitals, 1000), strings.Repeat(small, 1000))
}

// TestLowerBytes: each byte alone and among others: A to Z change, nothing else does.
func TestLowerBytes(t *testing.T) {
	for i := range 256 {
		low := i
		if i >= 0x41 && i <= 0x5A {
			low = i + 0x20
		}
		c, want := string([]byte{byte(i)}), string([]byte{byte(low)})
		lowers(t, c, want)
		lowers(t, "x"+c+"Y"+c, "x"+want+"y"+want)
		lowers(t, c+"\x80"+c, want+"\x80"+want)
	}
}

func areSame(t *testing.T, a, b api.Address, want bool) {
	t.Helper()
	if Same(a, b) != want || Same(b, a) != want {
		t.Errorf("P1401: Same(%q, %q): %v, turned %v; want %v", a, b, Same(a, b), Same(b, a), want)
	}
}

func TestSame(t *testing.T) {
	for _, d := range []string{"b.c", "B.c", "b.C", "B.C"} {
		for _, e := range []string{"b.c", "B.C"} {
			areSame(t, mailbox("a", d), mailbox("a", e), true)
			areSame(t, mailbox("a", d), mailbox("A", e), false)
			areSame(t, mailbox("a", d), mailbox("a", e+"c"), false)
			areSame(t, mailbox("a", d), mailbox("ab", e), false)
		}
	}
	areSame(t, api.Address{}, api.Address{}, true)
	areSame(t, api.Address{}, mailbox("a", "b"), false)
	areSame(t, mailbox("a", "b"), mailbox("", "b"), false)
	areSame(t, mailbox("a", "b"), mailbox("a", ""), false)
	areSame(t, mailbox("a", "b"), mailbox("b", "a"), false)
	areSame(t, mailbox("a", "bc"), mailbox("ab", "c"), false)
	areSame(t, mailbox("a b", "b"), mailbox("a b", "B"), true)
	areSame(t, mailbox("\"a\"", "b"), mailbox("a", "b"), false)
	areSame(t, mailbox("a", "[1.2.3.4]"), mailbox("a", "[1.2.3.4]"), true)
}

// TestSameBytes: of Domains A to Z alone are as a to z, of Locals nothing is; of such that are none, too.
func TestSameBytes(t *testing.T) {
	for i := range 256 {
		for j := range 256 {
			c, d := string([]byte{byte(i)}), string([]byte{byte(j)})
			letter := i&0xDF >= 0x41 && i&0xDF <= 0x5A
			areSame(t, mailbox("a", c+"x"), mailbox("a", d+"X"), i == j || letter && i^j == 0x20)
			if Same(mailbox(c+"x", "b"), mailbox(d+"x", "b")) != (i == j) {
				t.Errorf("P1401: Same of Locals with %q and %q", c, d)
			}
		}
	}
}
