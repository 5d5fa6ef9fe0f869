package cmd

import (
	"strings"
	"testing"

	"mailbag/api"
)

func prints(t *testing.T, c Command, want string) {
	t.Helper()
	if got := Print(c); got != want {
		t.Errorf("P1502: Print(%+v): %q; want %q", c, got, want)
	}
}

// TestPrintArg: the kinds that have a text, and the one that has none if there is none.
func TestPrintArg(t *testing.T) {
	for word, kind := range map[string]int{"HELO": Helo, "EHLO": Ehlo, "VRFY": Vrfy, "NOOP": Noop} {
		for _, arg := range []string{"x", "a.B", "[1.2.3.4]", " x", "x ", " ", "  x  y  ", "a\r\nb", "\x00", "é\xff", strings.Repeat("x", 1000)} {
			prints(t, Command{Kind: kind, Arg: arg}, word+" "+arg)
		}
	}
	prints(t, Command{Kind: Helo}, "HELO ")
	prints(t, Command{Kind: Ehlo}, "EHLO ")
	prints(t, Command{Kind: Vrfy}, "VRFY ")
	prints(t, Command{Kind: Noop}, "NOOP")
}

func TestPrintAlone(t *testing.T) {
	prints(t, Command{Kind: Data}, "DATA")
	prints(t, Command{Kind: Rset}, "RSET")
	prints(t, Command{Kind: Quit}, "QUIT")
}

// printed are addresses, and Print of each.
func printed() map[api.Address]string {
	return map[api.Address]string{
		{}: "<>", mailbox("a", "b"): "<a@b>", mailbox("Ann.B", "Mail.Example"): "<Ann.B@Mail.Example>", mailbox("a b", "[1.2.3.4]"): `<"a b"@[1.2.3.4]>`,
		mailbox(`"\`, "b"): `<"\"\\"@b>`, mailbox("> ", "b"): `<"> "@b>`, mailbox(strings.Repeat("x", 64), "b"): "<" + strings.Repeat("x", 64) + "@b>",
	}
}

func TestPrintPath(t *testing.T) {
	for a, said := range printed() {
		prints(t, Command{Kind: Mail, Path: a, Size: -1}, "MAIL FROM:"+said)
		prints(t, Command{Kind: Mail, Path: a}, "MAIL FROM:"+said+" SIZE=0")
		prints(t, Command{Kind: Mail, Path: a, Size: 1}, "MAIL FROM:"+said+" SIZE=1")
		prints(t, Command{Kind: Mail, Path: a, Size: 10}, "MAIL FROM:"+said+" SIZE=10")
		prints(t, Command{Kind: Mail, Path: a, Size: 65536}, "MAIL FROM:"+said+" SIZE=65536")
		prints(t, Command{Kind: Mail, Path: a, Size: 999999999}, "MAIL FROM:"+said+" SIZE=999999999")
		prints(t, Command{Kind: Mail, Path: a, Size: 1000000000}, "MAIL FROM:"+said+" SIZE=1000000000")
		prints(t, Command{Kind: Rcpt, Path: a}, "RCPT TO:"+said)
	}
}

// noAddresses are addresses that are not Right.
func noAddresses() []api.Address {
	return []api.Address{mailbox("a", ""), mailbox("", "b"), mailbox("a", "_"), mailbox("a", "b."), mailbox("é", "b"), mailbox("a\r\n", "b"), mailbox("a", "[1.2.3]"), mailbox(strings.Repeat("x", 65), "b"), mailbox("a", domainOf(253)), mailbox("a", "b> SIZE=1"), mailbox("a@b> SIZE=1", "")}
}

// TestPrintNoPath: of an address that is not Right addr.Print is nothing.
func TestPrintNoPath(t *testing.T) {
	for _, a := range noAddresses() {
		prints(t, Command{Kind: Mail, Path: a, Size: -1}, "MAIL FROM:")
		prints(t, Command{Kind: Mail, Path: a, Size: 7}, "MAIL FROM: SIZE=7")
		prints(t, Command{Kind: Rcpt, Path: a}, "RCPT TO:")
	}
}

// kinds are numbers of no Kind.
func noKinds() []int {
	return []int{Bad, Bad - 1, Vrfy + 1, 11, 255, 256, 257, 1 << 20, -1 << 20, 1<<31 - 1, -1 << 31, 1<<63 - 1, -1 << 63}
}

func TestPrintNoKind(t *testing.T) {
	for _, kind := range noKinds() {
		prints(t, Command{Kind: kind}, "")
		prints(t, Command{Kind: kind, Arg: "x", Path: mailbox("a", "b"), Size: 7}, "")
		prints(t, Command{Kind: kind, Size: -1}, "")
	}
}

// TestPrintOtherFields: what a kind has not, Print does not tell.
func TestPrintOtherFields(t *testing.T) {
	other := Command{Arg: "x", Path: mailbox("a", "b"), Size: 7}
	for kind, want := range map[int]string{Helo: "HELO x", Ehlo: "EHLO x", Mail: "MAIL FROM:<a@b> SIZE=7", Rcpt: "RCPT TO:<a@b>", Data: "DATA", Rset: "RSET", Noop: "NOOP x", Quit: "QUIT", Vrfy: "VRFY x"} {
		other.Kind = kind
		prints(t, other, want)
	}
}
