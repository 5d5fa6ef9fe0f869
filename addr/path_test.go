package addr

import (
	"strings"
	"testing"

	"mailbag/api"
)

// reads asks Path for the address with nothing behind it, with bytes behind it, and Parse of each.
func reads(t *testing.T, s string, want api.Address) {
	t.Helper()
	for _, behind := range []string{"", " ", " SIZE=1", ">", "<", "<c@d>", s, "\x00", "\r\n", "é\xff", "\"", "@"} {
		a, rest, e := Path(s + behind)
		if a != want || rest != behind || e != api.OK {
			t.Errorf("P1403: Path(%q): %q, %q, %v; want %q, %q", s+behind, a, rest, e, want, behind)
		}
		b, e := Parse(s + behind)
		if behind == "" && (b != want || e != api.OK) || behind != "" && (b != (api.Address{}) || e != api.ErrForm) {
			t.Errorf("P1403: Parse(%q): %q, %v", s+behind, b, e)
		}
	}
}

// fails asks Path and Parse for that error, and for nothing beside it (P4).
func fails(t *testing.T, s string, want api.Errno) {
	t.Helper()
	if a, rest, e := Path(s); a != (api.Address{}) || rest != "" || e != want {
		t.Errorf("P1403: Path(%q): %q, %q, %v; want %v", s, a, rest, e, want)
	}
	if a, e := Parse(s); a != (api.Address{}) || e != want {
		t.Errorf("P1403: Parse(%q): %q, %v; want %v", s, a, e, want)
	}
}

func TestPath(t *testing.T) {
	reads(t, "<>", api.Address{})
	for said, local := range map[string]string{
		"a": "a", "a.b": "a.b", "a.b.c": "a.b.c", "A.b+c": "A.b+c", "-": "-", "!#$%&'*+-/=?^_`{|}~": "!#$%&'*+-/=?^_`{|}~",
		`"a"`: "a", `"a.b"`: "a.b", `"."`: ".", `".."`: "..", `".a"`: ".a", `"a."`: "a.", `"a..b"`: "a..b", `" "`: " ", `"a b"`: "a b",
		`"<>@,:;()[]"`: "<>@,:;()[]", `">"`: ">", `"@x:a"`: "@x:a", `"a@b"`: "a@b",
		`"\""`: `"`, `"\\"`: `\`, `"a\"b\\c"`: `a"b\c`, `"\a\b"`: "ab", `"\ "`: " ", `"\~\."`: "~.", `"\\\""`: `\"`, `"\\\\"`: `\\`,
	} {
		reads(t, "<"+said+"@b>", mailbox(local, "b"))
		reads(t, "<"+said+"@D.e-1>", mailbox(local, "D.e-1"))
		reads(t, "<"+said+"@[1.2.3.255]>", mailbox(local, "[1.2.3.255]"))
		reads(t, "<@x:"+said+"@b>", mailbox(local, "b"))
	}
}

func TestPathMarks(t *testing.T) {
	for _, s := range []string{
		"", "<", ">", "@", "a", "a@b", "a@b>", " <a@b>", "<<a@b>", "(<a@b>)", "<a", "<a@", "<a@b", "<a@b ", "<a@b<", "<a@b@c>", "<a@@b>", "<a>", "<@>", "<@b>", "<a@>", "< >", "< a@b>", "<a @b>", "<a@ b>", "<a@b >",
		"<ab", "<a.b>", "<a:b@c>", "<a,b@c>", "<(a)@b>", "<a@(b)>", "<a;b@c>", "<a\x00@b>", "<a@b\x00>", "<\x00>", "<a\r\n@b>", "<é@b>", "<a@é>", "<\xff@b>",
		"<a@b.>", "<a@.b>", "<a@b..c>", "<a@.>", "<a@->", "<a@-b>", "<a@b->", "<a@b-.c>", "<a@b.-c>", "<a@b_c>", "<a@b,c>", "<a@b:c>",
		"<a@[1.2.3.4>", "<a@1.2.3.4]>", "<a@[1.2.3]>", "<a@[1.2.3.256]>", "<a@[1.2.3.04]>", "<a@[1.2.3.4].b>", "<a@b[1.2.3.4]>", "<a@[]>", "<a@[>", "<a@]>", "<a@[[1.2.3.4]]>", "<a@[1.2.3.4]b>", "<a@[1.2.3.4][>", "<a@b[>", "<a@b]>",
		"<.@b>", "<.a@b>", "<a.@b>", "<a..b@c>", "<.a.b@c>", "<a.b.@c>", "<a\"@b>", "<a\"b\"@c>", "<a\\b@c>", "<\\a@b>", "<a\\@b@c>", "<a[@b>", "<a]@b>",
	} {
		fails(t, s, api.ErrForm)
	}
}

func TestPathQuotes(t *testing.T) {
	for _, s := range []string{
		`<"`, `<""`, `<"">`, `<""@b>`, `<"@b>`, `<"a`, `<"a>`, `<"a@b>`, `<"a"`, `<"a">`, `<"a"@`, `<"a"@>`, `<"a"@b`, `<"a"b@c>`, `<"a" @b>`, `<"a".b@c>`, `<"a"."b"@c>`, `<b"a"@c>`, `<b."a"@c>`, `<"a""b"@c>`,
		`<"\`, `<"\"`, `<"\"@b>`, `<"a\"@b>`, `<"a\`, `<"\"\"@b>`, `<"\\\"@b>`, `<"\"@b`, `<"a"\@b>`, `<\"a"@b>`, `<"\">`, `<"a"@"b">`, `<'a b'@c>`,
		"<\"\x00\"@b>", "<\"\\\x00\"@b>", "<\"a\r\n\"@b>", "<\"a\\\r\n\"@b>", "<\"\t\"@b>", "<\"é\"@b>", "<\"\\é\"@b>",
	} {
		fails(t, s, api.ErrForm)
	}
}

// TestQuotedBytes: each byte in quotes, as it is and behind `\`, first, between and last.
func TestQuotedBytes(t *testing.T) {
	for i := range 256 {
		c := string([]byte{byte(i)})
		for _, place := range []string{"?", "?b", "a?", "a?b", "a?b?c"} {
			local := strings.ReplaceAll(place, "?", c)
			plain, behind := `<"`+local+`"@d>`, `<"`+strings.ReplaceAll(place, "?", `\`+c)+`"@d>`
			if i < 0x20 || i > 0x7E {
				fails(t, plain, api.ErrForm)
				fails(t, behind, api.ErrForm)
				continue
			}
			reads(t, behind, mailbox(local, "d"))
			if c != "\"" && c != "\\" {
				reads(t, plain, mailbox(local, "d"))
			}
		}
	}
}

// TestWordBytes: each byte without quotes, first, between, last, next to a dot.
func TestWordBytes(t *testing.T) {
	for i := range 256 {
		c := string([]byte{byte(i)})
		for _, place := range []string{"?", "?b", "a?", "a?b", "a.?", "?.a", "a.?.b"} {
			local := strings.ReplaceAll(place, "?", c)
			if c == "@" || c == "\"" {
				continue // marks: they are asked for elsewhere
			}
			if strings.Contains(wordBytes, c) || c == "." && place == "a?b" {
				reads(t, "<"+local+"@d>", mailbox(local, "d"))
			} else if c != ">" || place != "?" && place != "?b" && place != "?.a" { // `<>` is the null path
				fails(t, "<"+local+"@d>", api.ErrForm)
			}
		}
	}
}

// TestBytesBehind: each byte may stand behind `>`.
func TestBytesBehind(t *testing.T) {
	for i := range 256 {
		c := string([]byte{byte(i)})
		for _, s := range []string{"<>", "<a@b>", `<"a b"@c.d>`, "<@x:a@[1.2.3.4]>"} {
			want, _, _ := Path(s)
			for _, behind := range []string{c, c + c, c + "x", "x" + c} {
				a, rest, e := Path(s + behind)
				if a != want || rest != behind || e != api.OK {
					t.Errorf("P1403: Path(%q): %q, %q, %v", s+behind, a, rest, e)
				}
				fails(t, "x"+s+behind, api.ErrForm)
			}
		}
	}
	long := strings.Repeat("y>", 10000)
	if _, rest, e := Path("<a@b>" + long); rest != long || e != api.OK {
		t.Errorf("P1403: %d bytes behind: %d, %v", len(long), len(rest), e)
	}
}

func TestRoute(t *testing.T) {
	label := strings.Repeat("r", 64)
	for _, domain := range []string{"x", "y.z", "1", "[1.2.3.4]", "X-Y.z", domainOf(255), domainOf(256), domainOf(100000), label, "a." + label + ".b", strings.Repeat(label, 100)} {
		for _, route := range []string{"@" + domain, "@" + domain + ",@" + domain, "@w,@" + domain + ",@v", "@" + domain + ",@[0.0.0.0],@u.t"} {
			reads(t, "<"+route+":a@b>", mailbox("a", "b"))
			reads(t, "<"+route+`:"a\" b"@c.d>`, mailbox(`a" b`, "c.d"))
			fails(t, "<"+route+":>", api.ErrForm)
			fails(t, "<"+route+":a>", api.ErrForm)
			fails(t, "<"+route+":@b>", api.ErrForm)
			fails(t, "<"+route+":"+route+":a@b>", api.ErrForm)
			fails(t, "<"+route+">", api.ErrForm)
			fails(t, "<"+route, api.ErrForm)
			fails(t, "<"+route+":", api.ErrForm)
			fails(t, "<"+route+"a@b>", api.ErrForm)
			fails(t, "<"+route+",a@b>", api.ErrForm)
			fails(t, "<"+route+",:a@b>", api.ErrForm)
			fails(t, "<"+route+",@:a@b>", api.ErrForm)
			fails(t, "<"+route+" :a@b>", api.ErrForm)
			fails(t, "<"+route+": a@b>", api.ErrForm)
			fails(t, "<"+route+";a@b>", api.ErrForm)
			fails(t, "<"+route+"::a@b>", api.ErrForm)
			fails(t, "<"+route+", @x:a@b>", api.ErrForm)
			fails(t, "<"+route+",,@x:a@b>", api.ErrForm)
			fails(t, "<"+route+"@x:a@b>", api.ErrForm)
			fails(t, "<,"+route+":a@b>", api.ErrForm)
			fails(t, "<a"+route+":a@b>", api.ErrForm)
		}
	}
	for _, domain := range []string{"", ".", "x.", ".x", "x..y", "-", "-x", "x-", "x-.y", "x_y", "é", "x y", "[1.2.3]", "[1.2.3.256]", "[1.2.3.4", "[01.2.3.4]", "x[", "]", "[1.2.3.4]x", "\"x\"", "x\x00", "<x>"} {
		for _, route := range []string{"@" + domain, "@w,@" + domain, "@" + domain + ",@v", "@w,@" + domain + ",@v"} {
			fails(t, "<"+route+":a@b>", api.ErrForm)
		}
	}
}
