package cmd

import (
	"strings"
	"testing"

	"mailbag/api"
)

func isRight(t *testing.T, c Command, want bool) {
	t.Helper()
	if got := Right(c); got != want {
		t.Errorf("P1502: Right(%+v): %v; want %v", c, got, want)
	}
	back, code := Parse(Print(c))
	if same := code == 0 && back == c; same != want {
		t.Errorf("P1502: Parse(%q): %+v, %d; of %+v", Print(c), back, code, c)
	}
}

// TestRight: what Parse answers is Right, of each kind.
func TestRight(t *testing.T) {
	for _, c := range lines() {
		isRight(t, c, true)
	}
	for a := range printed() {
		isRight(t, Command{Kind: Rcpt, Path: a}, a != api.Address{})
		for size, want := range map[int]bool{-1: true, 0: true, 1: true, 65536: true, 999999998: true, 999999999: true, -2: false, 1000000000: false, 1000000001: false, 1<<31 - 1: false, -1 << 31: false, 1 << 32: false, 1<<32 + 1: false, 1<<63 - 1: false, -1 << 63: false, -9: false, -999999999: false} {
			isRight(t, Command{Kind: Mail, Path: a, Size: size}, want)
		}
	}
}

func TestRightKind(t *testing.T) {
	for _, kind := range noKinds() {
		for _, arg := range []string{"", "x", "HELO a", "DATA"} {
			isRight(t, Command{Kind: kind, Arg: arg}, false)
		}
		isRight(t, Command{Kind: kind, Size: -1}, false)
		isRight(t, Command{Kind: kind, Path: mailbox("a", "b")}, false)
	}
}

func TestRightArg(t *testing.T) {
	for arg, want := range map[string]struct{ domain, text bool }{
		"a": {true, true}, "a.B-c": {true, true}, "[1.2.3.4]": {true, true}, domainOf(255): {true, true},
		"": {false, false}, " ": {false, false}, "  ": {false, false}, "a ": {false, false}, "a  ": {false, false}, "a b ": {false, false}, strings.Repeat("x", 600) + " ": {false, false},
		"a b": {false, true}, " a": {false, true}, "  a": {false, true}, "a_b": {false, true}, "a..b": {false, true}, "[1.2.3]": {false, true}, "<a@b>": {false, true}, "~": {false, true}, domainOf(256): {false, true}, strings.Repeat("x ", 600) + "x": {false, true},
		"a\r\n": {false, false}, "\x1f": {false, false}, "\x7f": {false, false}, "é": {false, false}, "a\x00b": {false, false}, "\xff": {false, false}, "a\n": {false, false}, "a\t": {false, false}, "a\r\nQUIT": {false, false},
	} {
		isRight(t, Command{Kind: Helo, Arg: arg}, want.domain)
		isRight(t, Command{Kind: Ehlo, Arg: arg}, want.domain)
		isRight(t, Command{Kind: Vrfy, Arg: arg}, want.text)
		isRight(t, Command{Kind: Noop, Arg: arg}, want.text || arg == "")
		for _, kind := range []int{Data, Rset, Quit} {
			isRight(t, Command{Kind: kind, Arg: arg}, arg == "")
		}
		isRight(t, Command{Kind: Mail, Arg: arg, Path: mailbox("a", "b"), Size: -1}, arg == "")
		isRight(t, Command{Kind: Mail, Arg: arg, Path: mailbox("a", "b"), Size: 7}, arg == "")
		isRight(t, Command{Kind: Rcpt, Arg: arg, Path: mailbox("a", "b")}, arg == "")
	}
}

func TestRightPath(t *testing.T) {
	for _, a := range noAddresses() {
		isRight(t, Command{Kind: Mail, Path: a, Size: -1}, false)
		isRight(t, Command{Kind: Mail, Path: a, Size: 7}, false)
		isRight(t, Command{Kind: Rcpt, Path: a}, false)
	}
	isRight(t, Command{Kind: Rcpt}, false)
	isRight(t, Command{Kind: Mail}, true)
	isRight(t, Command{Kind: Mail, Path: mailbox("a", domainOf(252)), Size: 999999999}, true)
	isRight(t, Command{Kind: Rcpt, Path: mailbox("a", domainOf(252))}, true)
}

// TestRightOtherFields: a path or a size of a kind that has none.
func TestRightOtherFields(t *testing.T) {
	for _, c := range lines() {
		if c.Kind == Mail {
			continue
		}
		for _, size := range []int{-1, 1, 7, 1 << 40} {
			d := c
			d.Size = size
			isRight(t, d, false)
		}
		if c.Kind == Rcpt {
			continue
		}
		for _, a := range append(noAddresses(), mailbox("a", "b"), mailbox("a b", "c")) {
			d := c
			d.Path = a
			isRight(t, d, false)
		}
	}
}
