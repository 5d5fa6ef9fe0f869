package addr

import (
	"strings"
	"testing"

	"mailbag/api"
)

func prints(t *testing.T, a api.Address, want string) {
	t.Helper()
	if got := Print(a); got != want {
		t.Errorf("P1402: Print(%q): %q; want %q", a, got, want)
	}
}

func TestPrint(t *testing.T) {
	prints(t, api.Address{}, "<>")
	for local, want := range map[string]string{
		"a": `a`, "a.b": `a.b`, "a.b.c": `a.b.c`, "Mail.42+in": `Mail.42+in`, "a-b": `a-b`, "-": `-`, "-.-": `-.-`, "{}|~`!": "{}|~`!", "!#$%&'*+-/=?^_": `!#$%&'*+-/=?^_`,
		".": `"."`, "..": `".."`, ".a": `".a"`, "a.": `"a."`, "a..b": `"a..b"`, ".a.b": `".a.b"`, "a.b.": `"a.b."`, "a.b..c": `"a.b..c"`,
		"a b": `"a b"`, " ": `" "`, "a ": `"a "`, " a": `" a"`, "a@b": `"a@b"`, "a,b": `"a,b"`, "a:b": `"a:b"`, "<a>": `"<a>"`, ">": `">"`, "(a)": `"(a)"`, "[1.2.3.4]": `"[1.2.3.4]"`,
		"\"": `"\""`, "\\": `"\\"`, "a\"b": `"a\"b"`, "a\\b": `"a\\b"`, "\"a\"": `"\"a\""`, "\\\"": `"\\\""`, "\"\\": `"\"\\"`, "a.\"": `"a.\""`, "\\\\": `"\\\\"`,
	} {
		prints(t, mailbox(local, "b"), "<"+want+"@b>")
		prints(t, mailbox(local, "Mail.Example-1.ORG"), "<"+want+"@Mail.Example-1.ORG>")
		prints(t, mailbox(local, "[1.2.3.4]"), "<"+want+"@[1.2.3.4]>")
	}
	long := strings.Repeat("x", 64)
	prints(t, mailbox(long, "b"), "<"+long+"@b>")
}

const wordBytes = letters + "!#$%&'*+-/=?^_\x60{|}~"

// TestPrintBytes: each byte of a Local alone, first, between, last, next to a dot.
func TestPrintBytes(t *testing.T) {
	for i := 0x20; i <= 0x7E; i++ {
		c := string([]byte{byte(i)})
		word, said := strings.Contains(wordBytes, c), c
		if c == "\"" || c == "\\" {
			said = "\\" + c
		}
		for _, place := range []string{"?", "?a", "a?", "a?b", "a.?", "?.a", "a.?.b", "a.b?c.d"} {
			local := strings.ReplaceAll(place, "?", c)
			want := "<\"" + strings.ReplaceAll(place, "?", said) + "\"@d>"
			if word || c == "." && (place == "a?b" || place == "a.b?c.d") {
				want = "<" + local + "@d>"
			}
			prints(t, mailbox(local, "d"), want)
		}
	}
}

func TestPrintOfWhatIsNotRight(t *testing.T) {
	for _, a := range []api.Address{
		mailbox("a", ""), mailbox("", "b"), mailbox("", "-b"), mailbox("a", "b_"), mailbox("a", "b."), mailbox("a", ".b"), mailbox("a", "[1.2.3]"), mailbox("a", "b>"),
		mailbox("a\r\n", "b"), mailbox("a\x1f", "b"), mailbox("\x7f", "b"), mailbox("é", "b"), mailbox("\x80", ""), mailbox("\x00", "\x00"),
		mailbox(strings.Repeat("x", 65), "b"), mailbox("a", strings.Repeat("x", 64)), mailbox("a", domainOf(256)), mailbox("a", domainOf(253)), mailbox(strings.Repeat("\"", 64), domainOf(124)),
	} {
		prints(t, a, "")
	}
	for i := range 256 {
		if i >= 0x20 && i <= 0x7E {
			continue
		}
		prints(t, mailbox(string([]byte{'a', byte(i)}), "b"), "")
	}
}
