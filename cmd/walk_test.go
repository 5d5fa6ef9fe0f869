package cmd

import (
	"math/rand/v2"
	"regexp"
	"strconv"
	"strings"
	"testing"

	"mailbag/addr"
	"mailbag/api"
)

// The document's words as patterns, of a text of bytes 20 to 7E without blanks at its end.
var (
	plainBytes = regexp.MustCompile(`^[ -~]*$`)
	plainWord  = regexp.MustCompile(`^[^ ]*`)
	plainArg   = regexp.MustCompile(`^[^ ]+ (.*)$`)
	plainFrom  = regexp.MustCompile(`^[^ ]+ [fF][rR][oO][mM]: *(<.*)$`)
	plainTo    = regexp.MustCompile(`^[^ ]+ [tT][oO]: *(<.*)$`)
	plainSize  = regexp.MustCompile(`^ [sS][iI][zZ][eE]=([0-9]{1,9})$`)
	plainText  = regexp.MustCompile(`^[ -~]*[!-~]$`)
	endBlanks  = regexp.MustCompile(` *$`)
)

// plainPath asks all fronts of a text whether they are a path: one of them at most is.
func plainPath(s string) (api.Address, string, bool) {
	for i := range len(s) + 1 {
		if a, e := addr.Parse(s[:i]); e == api.OK {
			return a, s[i:], true
		}
	}
	return api.Address{}, "", false
}

// plainMailbox is a path behind what a pattern takes, and whether nothing or a blank follows.
func plainMailbox(s string, front *regexp.Regexp) (api.Address, string, bool) {
	found := front.FindStringSubmatch(s)
	if found == nil {
		return api.Address{}, "", false
	}
	a, rest, there := plainPath(found[1])
	return a, rest, there && (rest == "" || strings.HasPrefix(rest, " "))
}

func plainMail(s string) (Command, int) {
	a, rest, there := plainMailbox(s, plainFrom)
	if !there {
		return Command{}, 501
	}
	if rest == "" {
		return Command{Kind: 3, Path: a, Size: -1}, 0
	}
	found := plainSize.FindStringSubmatch(rest)
	if found == nil {
		return Command{}, 555
	}
	size, _ := strconv.Atoi(found[1])
	return Command{Kind: 3, Path: a, Size: size}, 0
}

func plainRcpt(s string) (Command, int) {
	a, rest, there := plainMailbox(s, plainTo)
	if !there || a.Local == "" {
		return Command{}, 501
	}
	if rest != "" {
		return Command{}, 555
	}
	return Command{Kind: 4, Path: a}, 0
}

func plainParse(s string) (Command, int) {
	if !plainBytes.MatchString(s) {
		return Command{}, 500
	}
	s = endBlanks.ReplaceAllString(s, "")
	kind := map[string]int{"HELO": 1, "EHLO": 2, "MAIL": 3, "RCPT": 4, "DATA": 5, "RSET": 6, "NOOP": 7, "QUIT": 8, "VRFY": 9}[strings.ToUpper(plainWord.FindString(s))]
	arg := ""
	found := plainArg.FindStringSubmatch(s)
	if found != nil {
		arg = found[1]
	}
	fits := true
	switch kind {
	case 0:
		return Command{}, 500
	case 1, 2:
		fits = addr.Domain(arg)
	case 3:
		return plainMail(s)
	case 4:
		return plainRcpt(s)
	case 5, 6, 8:
		fits = found == nil
	case 9:
		fits = found != nil
	}
	if !fits {
		return Command{}, 501
	}
	return Command{Kind: kind, Arg: arg}, 0
}

// plainRight asks each field what its kind says of it.
func plainRight(c Command) bool {
	bare := c
	switch c.Kind {
	case 1, 2, 7, 9:
		bare.Arg = ""
	case 3:
		bare.Path, bare.Size = api.Address{}, 0
	case 4:
		bare.Path = api.Address{}
	}
	if c.Kind < 1 || c.Kind > 9 || bare != (Command{Kind: c.Kind}) {
		return false // it has what its kind has not
	}
	switch c.Kind {
	case 1, 2:
		return addr.Domain(c.Arg)
	case 3:
		return addr.Right(c.Path) && c.Size >= -1 && c.Size <= 999999999
	case 4:
		return addr.Right(c.Path) && c.Path != api.Address{}
	case 7:
		return c.Arg == "" || plainText.MatchString(c.Arg)
	case 9:
		return plainText.MatchString(c.Arg)
	}
	return true
}

// asPlain holds Parse of a text against the plain reader; it answers the code.
func asPlain(t *testing.T, s string) int {
	t.Helper()
	want, wanted := plainParse(s)
	c, code := Parse(s)
	if c != want || code != wanted {
		t.Errorf("P1501: Parse(%q): %+v, %d; want %+v, %d", s, c, code, want, wanted)
	}
	if code == 0 && !Right(c) {
		t.Errorf("P1502: Right(%+v), Parse of %q: false", c, s)
	}
	return code
}

// commandAsPlain holds Right against the plain reader, and Parse of Print of what is Right against it.
func commandAsPlain(t *testing.T, c Command) bool {
	t.Helper()
	right := plainRight(c)
	if Right(c) != right {
		t.Errorf("P1502: Right(%+v): %v; want %v", c, !right, right)
	}
	if back, code := Parse(Print(c)); right && (back != c || code != 0) {
		t.Errorf("P1501, P1502: Parse(%q): %+v, %d; want %+v, 0", Print(c), back, code, c)
	}
	return right
}

// each calls for all texts of up to most of these pieces.
func each(pieces []string, most int, front string, call func(s string)) {
	call(front)
	if most == 0 {
		return
	}
	for _, piece := range pieces {
		each(pieces, most-1, front+piece, call)
	}
}

// TestTextsOfPieces holds all short texts of the pieces that matter against the plain reader.
func TestTextsOfPieces(t *testing.T) {
	plain := func(s string) { asPlain(t, s) }
	each([]string{"helo", "EHLO", "Mail", "rcpt", "data", "rset", "noop", "quit", "vrfy", " ", "a", "from:", "to:", "<a@b>", "\t"}, 4, "", plain)
	each([]string{" ", "from:", "<>", "<a@b>", "size=", "1", "x"}, 5, "mail", plain)
	each([]string{" ", "<", ">", "a@b", "\"", "SIZE=1"}, 5, "mail from:", plain)
	each([]string{" ", "size=", "0", "999999999", "x", "\x7f"}, 4, "mail from:<a@b>", plain)
	each([]string{" ", "to:", "<>", "<a@b>", "size=1", "x"}, 5, "rcpt", plain)
	each([]string{" ", ".", "a", "-", "_", "[1.2.3.4]"}, 4, "helo", plain)
	each([]string{" ", ".", "a", "\x80"}, 5, "noop", plain)
	each([]string{" ", ".", "a", "\x80"}, 5, "vrfy", plain)
	each([]string{" ", ".", "a", "\x80"}, 4, "quit", plain)
}

// TestShortTexts: all short texts of some bytes, which are hardly ever a word.
func TestShortTexts(t *testing.T) {
	each([]string{"d", "A", "t", "a", " ", "\x1f"}, 6, "", func(s string) { asPlain(t, s) })
}

// TestLinesButForOneByte: of commands each byte becomes each other, each goes, each comes ahead of each.
func TestLinesButForOneByte(t *testing.T) {
	texts := []string{`Mail From: <@x:"a \" >b"@c.d> Size=012  `, "MAIL FROM:<a.b@[1.2.3.4]>", `Rcpt To: <@x:"a> b"@c.d>`, "mail from:<> size=123456789", "rcpt to:<a@b>  "}
	for s := range lines() {
		texts = append(texts, s)
	}
	seen := map[int]int{}
	for _, s := range texts {
		for i := range len(s) + 1 {
			for n := range 256 {
				b := string([]byte{byte(n)})
				seen[asPlain(t, s[:i]+b+s[i:])]++
				if i < len(s) {
					seen[asPlain(t, s[:i]+b+s[i+1:])]++
				}
			}
			seen[asPlain(t, s[:i])]++
			seen[asPlain(t, s[i:])]++
			if i < len(s) {
				seen[asPlain(t, s[:i]+s[i+1:])]++
			}
		}
	}
	for _, code := range []int{0, 500, 501, 555} {
		if seen[code] < 1000 {
			t.Errorf("too few of one code: %v", seen)
		}
	}
}

// drawer draws commands and texts; the same each time.
type drawer struct{ *rand.Rand }

func newDrawer(seed uint64) drawer { return drawer{rand.New(rand.NewPCG(seed, 15))} }

func (d drawer) one(texts ...string) string { return texts[d.IntN(len(texts))] }

func (d drawer) of(bytes string, least, most int) string {
	b := make([]byte, least+d.IntN(most-least+1))
	for i := range b {
		b[i] = bytes[d.IntN(len(bytes))]
	}
	return string(b)
}

// anyCase is a word in letters of any case.
func (d drawer) anyCase(word string) string {
	b := []byte(word)
	for i, c := range b {
		if d.IntN(2) == 0 && c >= 'a' && c <= 'z' {
			b[i] = c - ('a' - 'A')
		}
	}
	return string(b)
}

func (d drawer) blanks() string {
	return strings.Repeat(" ", max(0, d.IntN(8)-5))
}

func (d drawer) domain() string {
	if d.IntN(4) == 0 {
		return d.one("[1.2.3.4]", "[255.0.10.199]", "[1.2.3]", "[1.2.3.256]", "a..b", "a_b", "-a", strings.Repeat("x", 63), strings.Repeat("x", 64))
	}
	return d.of("abCD019", 1, 5) + strings.Repeat("."+d.of("xYz", 1, 3), d.IntN(3))
}

func (d drawer) local() string {
	return d.one(d.of("aB.+", 1, 6), d.of(" <>@:\"\\,a.~", 1, 8), d.of("a", 62, 66))
}

func (d drawer) mailbox() api.Address {
	if d.IntN(6) == 0 {
		return api.Address{}
	}
	return mailbox(d.local(), d.domain())
}

// path is Print of an address, most times, with a route or as another text at others.
func (d drawer) path() string {
	said := addr.Print(d.mailbox())
	switch d.IntN(5) {
	case 0:
		return strings.Replace(said, "<", "<@"+d.domain()+":", 1)
	case 1:
		return d.one("", "<", "<a@b", "a@b", `<"a@b>`, "<a b@c>", "<"+d.of("x", 60, 70)+"@b>", `<"\x>"@b>`)
	}
	return said
}

func (d drawer) digits() string {
	return d.one("0", "7", "65536", d.of("0123456789", 1, 9), d.of("0123456789", 8, 11), d.of("0123456789", 0, 12), "000000007", "-1", "+1", "1x", "")
}

func (d drawer) text() string {
	return d.one("", d.of("ab ", 0, 8), d.of(" x<>:@~!", 0, 12), d.domain(), d.path())
}

// line is a command as it may be written, and not always may.
func (d drawer) line() string {
	switch d.IntN(6) {
	case 0:
		return d.anyCase(d.one("helo", "ehlo")) + d.one(" ", " ", " ", "  ", "") + d.one(d.domain(), d.domain(), d.text()) + d.blanks()
	case 1, 2:
		s := d.anyCase("mail") + " " + d.blanks() + d.anyCase("from:") + d.blanks() + d.path()
		if d.IntN(2) == 0 {
			s += " " + d.one("", "", "", "", " ", "x") + d.anyCase("size=") + d.digits()
		}
		return s + d.one("", "", "", "x", " x") + d.blanks()
	case 3:
		return d.anyCase("rcpt") + " " + d.anyCase("to:") + d.blanks() + d.path() + d.one("", "", "", "x", " x", " size=1") + d.blanks()
	case 4:
		return d.anyCase(d.one("noop", "vrfy", "noop", "vrfy", "data", "rset", "quit")) + " " + d.text() + d.blanks()
	}
	return d.anyCase(d.one("data", "rset", "quit", "noop", "vrfy", "help", "dat")) + d.one("", "", "", "x", "\t", ":") + d.blanks()
}

func TestDrawnLines(t *testing.T) {
	d, seen := newDrawer(1), map[int]int{}
	for range 20000 {
		s := d.line() + "  "
		i := d.IntN(len(s))
		b := string([]byte{byte(d.IntN(256))})
		if d.IntN(2) == 0 {
			b = d.of(" <>:@=1aA\"\\", 1, 1)
		}
		for _, text := range []string{s, s[:i] + b + s[i+1:], s[:i] + b + s[i:], s[:i] + s[i+1:], s[:i]} {
			seen[asPlain(t, text)]++
		}
	}
	for _, code := range []int{0, 500, 501, 555} {
		if seen[code] < 3000 {
			t.Errorf("too few of one code: %v", seen)
		}
	}
}

func TestDrawnBytes(t *testing.T) {
	d := newDrawer(2)
	for range 20000 {
		asPlain(t, d.of("helomairctdspqunvfy ", 0, 6))
		asPlain(t, "mail from:"+d.of("<>@a \"\\:", 0, 10))
		asPlain(t, "MAIL FROM:<a@b>"+d.of(" sSiIzZeE=01", 0, 8))
		asPlain(t, "rcpt to:"+d.of("<>@a ", 0, 8))
		asPlain(t, "ehlo "+d.of("a.-[1] ", 0, 10))
	}
}

// command is one whose fields are drawn: those of its kind most times, and others too.
func (d drawer) command() Command {
	c := Command{Kind: d.IntN(12) - 1}
	if d.IntN(10) == 0 {
		return Command{c.Kind, d.text(), d.mailbox(), d.IntN(4) - 2}
	}
	switch c.Kind {
	case Helo, Ehlo:
		c.Arg = d.domain()
	case Noop, Vrfy:
		c.Arg = d.text() + d.one("", "", "", "", " ", "\x1f", "\xff")
	case Mail:
		c.Path = d.mailbox()
		c.Size, _ = strconv.Atoi(d.digits())
		c.Size -= d.IntN(2)
	case Rcpt:
		c.Path = d.mailbox()
	}
	return c
}

func TestDrawnCommands(t *testing.T) {
	d := newDrawer(3)
	var right, not [Vrfy + 1]int
	for range 50000 {
		c := d.command()
		if c.Kind < 0 || c.Kind > Vrfy {
			commandAsPlain(t, c)
		} else if commandAsPlain(t, c) {
			right[c.Kind]++
		} else {
			not[c.Kind]++
		}
	}
	for kind := range Vrfy + 1 {
		if kind != Bad && right[kind] < 1000 || not[kind] < 200 {
			t.Errorf("too few of one kind: %v are Right, %v not", right, not)
		}
	}
}

// TestDrawnFields: any fields beside each other.
func TestDrawnFields(t *testing.T) {
	d := newDrawer(4)
	for range 50000 {
		commandAsPlain(t, Command{d.IntN(12) - 1, d.one("", d.text()), d.mailbox(), d.IntN(3) - 1})
	}
}
