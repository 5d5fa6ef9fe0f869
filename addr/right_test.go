package addr

import (
	"strings"
	"testing"

	"mailbag/api"
)

func mailbox(local, domain string) api.Address { return api.Address{Local: local, Domain: domain} }

func isRight(t *testing.T, a api.Address, want bool) {
	t.Helper()
	if got := Right(a); got != want {
		t.Errorf("P1401: Right(%q): %v; want %v", a, got, want)
	}
}

func TestRight(t *testing.T) {
	for _, a := range []api.Address{{}, mailbox("a", "b"), mailbox("a b", "b"), mailbox("\"", "b.c"), mailbox("@", "[1.2.3.4]"), mailbox(strings.Repeat("x", 64), "b"), mailbox("a", strings.Repeat("x", 63))} {
		isRight(t, a, true)
	}
	for _, a := range []api.Address{
		mailbox("", "b"), mailbox("a", ""), mailbox("", "-"), mailbox("\x1f", ""), mailbox(" ", ""),
		mailbox("\x1f", "b"), mailbox("a\x7f", "b"), mailbox("a", "-b"), mailbox("a", "b."), mailbox("a", "[1.2.3.256]"), mailbox("\x80", "_"),
		mailbox(strings.Repeat("x", 65), "b"), mailbox("a", strings.Repeat("x", 64)), mailbox("a", domainOf(256)),
	} {
		isRight(t, a, false)
	}
}

// TestRightLength: Print has MaxAddr bytes at most, with each `\` and `"` that it puts.
func TestRightLength(t *testing.T) {
	for local, print := range map[string]int{
		"x": 1, strings.Repeat("x", 64): 64, "a.b": 3, strings.Repeat("x", 62) + ".x": 64,
		" ": 3, ".": 3, "x.": 4, "\"": 4, "\\": 4, "a\\b\"c": 9, strings.Repeat("x", 63) + " ": 66, strings.Repeat("x", 63) + "\"": 67,
		strings.Repeat("\\", 64): 130, strings.Repeat("\"", 64): 130, strings.Repeat("\"\\", 32): 130, strings.Repeat("\"", 63): 128, strings.Repeat("\"", 63) + "x": 129,
	} {
		most := api.MaxAddr - len("<@>") - print
		for n := most - 3; n <= min(most+3, 256); n++ {
			a := mailbox(local, domainOf(n))
			isRight(t, a, n <= most && n <= 255)
			if got := len(Print(a)); n <= most && got != api.MaxAddr-most+n || n > most && got != 0 {
				t.Errorf("P1401: Print of %q has %d bytes", a, got)
			}
		}
	}
}
