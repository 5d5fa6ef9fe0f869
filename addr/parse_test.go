package addr

import (
	"hash/crc32"
	"strings"
	"testing"

	"mailbag/api"
)

func parses(t *testing.T, s string, want api.Address, wanted api.Errno) {
	t.Helper()
	if a, e := Parse(s); a != want || e != wanted {
		t.Errorf("P1403: Parse(%q): %q, %v; want %q, %v", s, a, e, want, wanted)
	}
}

func TestParse(t *testing.T) {
	parses(t, "<>", api.Address{}, api.OK)
	parses(t, "<a@b>", mailbox("a", "b"), api.OK)
	parses(t, `<"a"@b>`, mailbox("a", "b"), api.OK)
	parses(t, `<@x,@y.z:"a b"@[1.2.3.4]>`, mailbox("a b", "[1.2.3.4]"), api.OK)
	for _, s := range []string{"", "a@b", "<a@b", "<a>", "<a@>", "<@b>"} {
		parses(t, s, api.Address{}, api.ErrForm)
	}
	for _, s := range []string{"<>", "<a@b>", `<"a b"@c>`} {
		for i := range 256 {
			parses(t, s+string([]byte{byte(i)}), api.Address{}, api.ErrForm)
		}
		parses(t, s+s, api.Address{}, api.ErrForm)
	}
}

// TestParseLong: Path's error is named first: what stands behind an address that is too long is not looked at.
func TestParseLong(t *testing.T) {
	long := "<" + strings.Repeat("a", 65) + "@b>"
	for _, behind := range []string{"", " ", "x", ">", "<>"} {
		parses(t, long+behind, api.Address{}, api.ErrLong)
	}
}

// TestParseOfPrint is P1404 of addresses at the edges.
func TestParseOfPrint(t *testing.T) {
	for _, local := range []string{"a", "a.b", ".", "..", "a.", ".a", "a..b", " ", "\"", "\\", "\\\"", "\"\\", "\"a\"", "<>", "@", "a@b", "@x:a", strings.Repeat("x", 64), strings.Repeat("\"", 64), strings.Repeat(".", 64), strings.Repeat("\\", 63) + "."} {
		for _, domain := range []string{"b", "B.c", "[1.2.3.4]", "1", strings.Repeat("x", 63), domainOf(api.MaxAddr - len(written(mailbox(local, ""))))} {
			a := mailbox(local, domain)
			isRight(t, a, true)
			parses(t, Print(a), a, api.OK)
		}
	}
	for i := 0x20; i <= 0x7E; i++ {
		for j := 0x20; j <= 0x7E; j++ {
			a := mailbox(string([]byte{byte(i), byte(j)}), "d")
			parses(t, Print(a), a, api.OK)
		}
	}
	parses(t, Print(api.Address{}), api.Address{}, api.OK)
}

func TestHash(t *testing.T) {
	for _, a := range []api.Address{
		{}, mailbox("a", "b"), mailbox("a", ""), mailbox("", "b"), mailbox("A", "b"), mailbox("a b", "c.d-e"), mailbox("\"\\", "[1.2.3.4]"),
		mailbox("é\xff", "_\x80"), mailbox("\x00", "\x00"), mailbox(strings.Repeat("x", 64), domainOf(189)), mailbox(strings.Repeat("x", 10000), strings.Repeat("y", 10000)),
	} {
		if got, want := Hash(a), crc32.ChecksumIEEE([]byte(a.Local+"\x00"+a.Domain)); got != want {
			t.Errorf("P1403: Hash(%q): %X; want %X", a, got, want)
		}
	}
	for _, c := range [][2]string{{"a", "B"}, {"a b", "Mail.EXAMPLE.org"}, {"A", "Z.z"}, {"", "B"}} {
		low, up := mailbox(c[0], strings.ToLower(c[1])), mailbox(c[0], strings.ToUpper(c[1]))
		if a := mailbox(c[0], c[1]); Hash(a) != Hash(low) || Hash(a) != Hash(up) || Hash(a) != crc32.ChecksumIEEE([]byte(low.Local+"\x00"+low.Domain)) {
			t.Errorf("P1403: Hash(%q) hangs on the Domain's case", a)
		}
	}
	for _, c := range [][2]api.Address{
		{mailbox("a", "b"), mailbox("A", "b")}, {mailbox("a", "b"), mailbox("b", "a")}, {mailbox("ab", "c"), mailbox("a", "bc")}, {mailbox("a", "b"), mailbox("a", "c")},
		{mailbox("", "ab"), mailbox("ab", "")}, {mailbox("a", "@"), mailbox("a", "`")}, {mailbox("a", "["), mailbox("a", "{")}, {mailbox("a", "\xc9"), mailbox("a", "\xe9")}, {mailbox("a b", "c"), mailbox("a B", "c")},
	} {
		if Hash(c[0]) == Hash(c[1]) {
			t.Errorf("P1403: Hash of %q and of %q are the same", c[0], c[1])
		}
	}
}
