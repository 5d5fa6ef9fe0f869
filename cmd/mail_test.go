package cmd

import (
	"strconv"
	"strings"
	"testing"

	"mailbag/api"
)

// paths are paths as they may be written, and their addresses.
func paths() map[string]api.Address {
	return map[string]api.Address{
		"<a@b>": mailbox("a", "b"), "<Ann.B+c@Mail.Example.ORG>": mailbox("Ann.B+c", "Mail.Example.ORG"), "<a@[1.2.3.4]>": mailbox("a", "[1.2.3.4]"),
		"<@x:a@b>": mailbox("a", "b"), "<@x.y,@[1.2.3.4],@z:a@b>": mailbox("a", "b"), `<@x:"a b"@c>`: mailbox("a b", "c"),
		`<"a"@b>`: mailbox("a", "b"), `<"a b"@c>`: mailbox("a b", "c"), `<" "@b>`: mailbox(" ", "b"), `<"a>"@b>`: mailbox("a>", "b"), `<"> x"@b>`: mailbox("> x", "b"), `<"> size=1"@b>`: mailbox("> size=1", "b"),
		`<"\""@b>`: mailbox(`"`, "b"), `<"\\"@b>`: mailbox(`\`, "b"), `<"\> \""@b>`: mailbox(`> "`, "b"), `<"<>"@b>`: mailbox("<>", "b"), `<"from:"@b>`: mailbox("from:", "b"),
		"<" + strings.Repeat("x", 64) + "@b>": mailbox(strings.Repeat("x", 64), "b"), "<a@" + domainOf(252) + ">": mailbox("a", domainOf(252)),
		"<@" + domainOf(1000) + ":a@b>": mailbox("a", "b"),
	}
}

// noPaths are texts that are no path at their front.
func noPaths() []string {
	return []string{
		"", "<", ">", "a", "a@b", "a@b>", "<a@b", "<a>", "<a@>", "<@b>", "<@x:>", "< >", "< a@b>", "<a @b>", "<a@b >", "<<a@b>>", "(<a@b>)", "<a@b@c>", "<a@b_c>", "<a@b..c>", "<a@-b>", "<.a@b>", "<a b@c>",
		"<a@[1.2.3]>", "<a@[1.2.3.256]>", `<""@b>`, `<"a@b>`, `<"a"b@c>`, `<"a\"@b>`, `"<a@b>"`, "x<a@b>", "-<a@b>", ":<a@b>", "\"\"<a@b>", "=<a@b>", "size=1", "null",
	}
}

// longPaths are paths but for their length.
func longPaths() []string {
	x := strings.Repeat("x", 65)
	return []string{"<" + x + "@b>", "<a@" + x + ">", "<a@" + x + ".b>", "<a@" + domainOf(253) + ">", "<@x:" + x + "@b>", `<"` + x + `"@b>`, `<"` + strings.Repeat(" ", 65) + `"@b>`, `<"` + strings.Repeat(`\"`, 64) + `"@` + domainOf(124) + ">", "<" + strings.Repeat("x", 100000) + "@b>"}
}

// sends asks for a path without a size, and with one.
func sends(t *testing.T, front, path string, from api.Address) {
	t.Helper()
	parses(t, front+path, Command{Kind: Mail, Path: from, Size: -1})
	parses(t, front+path+" size=0", Command{Kind: Mail, Path: from, Size: 0})
	parses(t, front+path+" SIZE=65536", Command{Kind: Mail, Path: from, Size: 65536})
}

func TestMail(t *testing.T) {
	for _, front := range []string{"mail from:", "MAIL FROM:", "mail from: ", "Mail From:   ", "mail FROM:" + strings.Repeat(" ", 600)} {
		sends(t, front, "<>", api.Address{})
		for path, from := range paths() {
			sends(t, front, path, from)
		}
	}
	cases("from:", func(s string) { sends(t, "mail "+s, "<a@b>", mailbox("a", "b")) })
}

// TestFrom: what stands ahead of the path.
func TestFrom(t *testing.T) {
	for _, path := range []string{"<>", "<a@b>", "<a@b> size=1", "<a@b> x", "<a@b>x"} {
		for _, front := range []string{" ", "  from:", "   from:", " from", " from ", " from :", " from: x", " f rom:", " rom:", " fro:", " fromm:", " ffrom:", " from::", " from;", " from=", " to:", " to: from:", " from:from:", " x from:", " \"from:\"", " mail from:", " <from:", " -from:", " from:-", " from:,", " from:<>"} {
			fails(t, "mail"+front+path, 501)
		}
		fails(t, "mail"+path, 500)
		fails(t, "mailfrom:"+path, 500)
		fails(t, "mail:"+path, 500)
	}
	for _, s := range []string{"mail", "mail from", "mail f", "mail from:", "mail from: ", "mail from:x", "mail :", "mail x", "mail size=1"} {
		fails(t, s, 501)
	}
}

// TestFromBytes: each byte for each of the word's, and ahead of each, and between it and the path.
func TestFromBytes(t *testing.T) {
	for i := range len("from:") {
		for n := 0x20; n <= 0x7E; n++ {
			b := string([]byte{byte(n)})
			if s := "from:"[:i] + b + "from:"[i+1:]; isWord(s, "from:") {
				sends(t, "mail "+s, "<a@b>", mailbox("a", "b"))
			} else {
				fails(t, "mail "+s+"<a@b>", 501)
			}
			fails(t, "mail "+"from:"[:i]+b+"from:"[i:]+"<a@b>", 501)
			if b != " " {
				fails(t, "mail from:"+b+"<a@b>", 501)
				fails(t, "mail from: "+b+"<a@b>", 501)
			}
		}
		fails(t, "mail "+"from:"[:i]+"from:"[i+1:]+"<a@b>", 501)
	}
}

// TestMailNoPath: whatever stands behind what is none.
func TestMailNoPath(t *testing.T) {
	for _, path := range append(noPaths(), longPaths()...) {
		for _, blanks := range []string{"", " ", "  "} {
			for _, behind := range []string{"", "x", " x", "  x", " size=1", " size=", "size=1", " size=1 x"} {
				fails(t, "mail from:"+blanks+path+behind, 501)
			}
		}
	}
}

// TestMailBehind: what stands behind a path, the null one too, and is no size.
func TestMailBehind(t *testing.T) {
	for path := range paths() {
		mailBehind(t, path)
	}
	mailBehind(t, "<>")
	for n := 0x21; n <= 0x7E; n++ {
		b := string([]byte{byte(n)})
		fails(t, "mail from:<a@b>"+b, 501)
		fails(t, "mail from:<a@b>"+b+"size=1", 501)
		fails(t, "mail from:<a@b>"+b+" size=1", 501)
		fails(t, "mail from:<>"+b, 501)
		fails(t, "mail from:<a@b> "+b, 555)
		fails(t, "mail from:<a@b> "+b+"size=1", 555)
	}
}

func mailBehind(t *testing.T, path string) {
	t.Helper()
	for _, behind := range []string{"x", ">", "<", "<>", path, "size=1", "SIZE=1", "size=", "=", "x size=1", ",", "-", "\"", "x "} {
		fails(t, "mail from:"+path+behind, 501)
	}
	for _, behind := range []string{"x", " x", "<>", path, "from:<a@b>", "size", "size=", "size 1", "size= 1", "size =1", " size=1", "  size=1", "=1", "1", "size:1", "siz=1", "size==1", "ssize=1", "size=1 x", "size=1 size=1", "size=1 ret=full", "size=1>", "body=8bitmime", "body=8bitmime size=1", "size=x", "size=1x", "size=x1", "size=-1", "size=+1", "size=1.0", "size=0x1", "size=1e1", "size=1_0", "size=1,0", "size=1=1", "size=1234567890", "size=0000000000", "size=0000000001", "size=" + strings.Repeat("1", 600), "size=18446744073709551617", "size=4294967297"} {
		fails(t, "mail from:"+path+" "+behind, 555)
		fails(t, "MAIL FROM: "+path+" "+strings.ToUpper(behind), 555)
	}
}

func TestSizes(t *testing.T) {
	a := mailbox("a", "b")
	for digits, size := range map[string]int{
		"0": 0, "1": 1, "9": 9, "10": 10, "65536": 65536, "12345678": 12345678, "123456789": 123456789, "999999999": 999999999, "100000000": 100000000,
		"00": 0, "01": 1, "000000000": 0, "000000001": 1, "000000010": 10, "010": 10, "00123": 123, "08": 8, "09": 9,
	} {
		for _, path := range []string{"<a@b>", `<"a"@b>`, "<@x:a@b>"} {
			parses(t, "mail from:"+path+" size="+digits, Command{Kind: Mail, Path: a, Size: size})
			fails(t, "mail from:"+path+" size="+digits+" 1", 555)
			fails(t, "mail from:"+path+"  size="+digits, 555)
			fails(t, "mail from:"+path+"size="+digits, 501)
		}
		parses(t, "mail from:<> size="+digits, Command{Kind: Mail, Size: size})
	}
	for size := range 2000 {
		parses(t, "mail from:<a@b> size="+strconv.Itoa(size), Command{Kind: Mail, Path: a, Size: size})
	}
	for n := range 20 {
		digits, size := strings.Repeat("0", n)+"7", 7
		if n < 9 {
			parses(t, "mail from:<a@b> size="+digits, Command{Kind: Mail, Path: a, Size: size})
		} else {
			fails(t, "mail from:<a@b> size="+digits, 555)
		}
	}
	cases("size=", func(s string) { parses(t, "mail from:<a@b> "+s+"12", Command{Kind: Mail, Path: a, Size: 12}) })
}

// TestSizeBytes: each byte for each of `size=` and of the digits, and ahead of each, and behind them.
func TestSizeBytes(t *testing.T) {
	const text, front = "size=12", "mail from:<a@b> "
	for i := range len(text) + 1 {
		for n := 0x20; n <= 0x7E; n++ {
			b := string([]byte{byte(n)})
			digit := n >= '0' && n <= '9'
			switch put := text[:i] + b + text[i:]; {
			case digit && i >= len("size="):
				size, _ := strconv.Atoi(put[len("size="):])
				parses(t, front+put, Command{Kind: Mail, Path: mailbox("a", "b"), Size: size})
			case i == len(text) && b == " ":
				parses(t, front+put, Command{Kind: Mail, Path: mailbox("a", "b"), Size: 12})
			default:
				fails(t, front+put, 555)
			}
			if i == len(text) {
				continue
			}
			switch other := text[:i] + b + text[i+1:]; {
			case digit && i >= len("size="), isWord(other, text):
				size, _ := strconv.Atoi(other[len("size="):])
				parses(t, front+other, Command{Kind: Mail, Path: mailbox("a", "b"), Size: size})
			case i == len(text)-1 && b == " ":
				parses(t, front+other, Command{Kind: Mail, Path: mailbox("a", "b"), Size: 1})
			default:
				fails(t, front+other, 555)
			}
		}
	}
}
