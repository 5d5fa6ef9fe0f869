package cmd

import (
	"strings"
	"testing"
)

// parses asks Parse for that command, with blanks at the text's end too, and whether
// it is Right, and comes back from its Print (P1502).
func parses(t *testing.T, s string, want Command) {
	t.Helper()
	for _, end := range []string{"", " ", "  ", strings.Repeat(" ", 40)} {
		if c, code := Parse(s + end); c != want || code != 0 {
			t.Errorf("P1501: Parse(%q): %+v, %d; want %+v, 0", s+end, c, code, want)
		}
	}
	if c, code := Parse(Print(want)); c != want || code != 0 || !Right(want) {
		t.Errorf("P1502: Parse(%q): %+v, %d; want %+v, 0; Right: %v", Print(want), c, code, want, Right(want))
	}
}

// fails asks Parse for that code, and for nothing beside it (P4), with blanks at the text's end too.
func fails(t *testing.T, s string, want int) {
	t.Helper()
	for _, end := range []string{"", " ", "  ", strings.Repeat(" ", 40)} {
		if c, code := Parse(s + end); c != (Command{}) || code != want {
			t.Errorf("P1501: Parse(%q): %+v, %d; want nothing, %d", s+end, c, code, want)
		}
	}
}

// isWord tells which texts are a word, whatever the case of its letters.
func isWord(s, word string) bool { return strings.EqualFold(s, word) && len(s) == len(word) }

// lines are commands of each kind, and what Parse is to answer.
func lines() map[string]Command {
	ab := mailbox("a", "b")
	return map[string]Command{
		"helo a.b": {Kind: Helo, Arg: "a.b"}, "ehlo [1.2.3.4]": {Kind: Ehlo, Arg: "[1.2.3.4]"},
		"mail from:<>": {Kind: Mail, Size: -1}, "mail from:<a@b>": {Kind: Mail, Path: ab, Size: -1}, "mail from:<a@b> size=9": {Kind: Mail, Path: ab, Size: 9},
		"rcpt to:<a@b>": {Kind: Rcpt, Path: ab}, "data": {Kind: Data}, "rset": {Kind: Rset}, "quit": {Kind: Quit},
		"noop": {Kind: Noop}, "noop x y": {Kind: Noop, Arg: "x y"}, "vrfy x y": {Kind: Vrfy, Arg: "x y"},
	}
}

func TestLines(t *testing.T) {
	for s, want := range lines() {
		parses(t, s, want)
	}
}

func TestKinds(t *testing.T) {
	for i, kind := range []int{Bad, Helo, Ehlo, Mail, Rcpt, Data, Rset, Noop, Quit, Vrfy} {
		if kind != i {
			t.Errorf("Kind %d is %d", i, kind)
		}
	}
}

func TestNothing(t *testing.T) {
	fails(t, "", 500)
	fails(t, " ", 500)
}

// TestBlankFirst: ahead of the first blank there is no word.
func TestBlankFirst(t *testing.T) {
	for s := range lines() {
		fails(t, " "+s, 500)
		fails(t, "  "+s, 500)
	}
}

// TestBytes: a byte that is not 20 to 7E, wherever it stands, and whatever else is wrong.
func TestBytes(t *testing.T) {
	texts := []string{"", " ", "x", "foo bar", "helo", "helo a_b", "mail", "mail from:<a>", "mail from:<a@b> x", "mail from:<a@b> size=", "mail from:<a@b>x", "rcpt to:<>", "rcpt to:<> x", "rcpt to:<a@b> x", "data x", "vrfy", `mail from:<"a b"@c>`}
	for s := range lines() {
		texts = append(texts, s)
	}
	for _, s := range texts {
		for c := range 256 {
			if c >= 0x20 && c <= 0x7E {
				continue
			}
			for i := range len(s) + 1 {
				b := string([]byte{byte(c)})
				fails(t, s[:i]+b+s[i:], 500)
				if i < len(s) {
					fails(t, s[:i]+b+s[i+1:], 500)
				}
			}
		}
	}
	for _, s := range []string{"noop é", "helo é", "mail from:<é@b>", "vrfy \x7f", "noop \x1f", "data\r\n", "data\n", "data\r", "noop a\x00", "\u017fet", "\uFEFFnoop", "helo\u00a0a"} {
		fails(t, s, 500)
	}
}

// TestBytesAtTheEnd: it is behind blanks, or ahead of them.
func TestBytesAtTheEnd(t *testing.T) {
	for s := range lines() {
		for _, end := range []string{"\t", "\r", "\n", "\x00", "\x1f", "\x7f", "\x80", "\xff", "\u00a0"} {
			fails(t, s+end, 500)
			fails(t, s+"  "+end, 500)
		}
	}
}

// words is the words, with what may stand behind each.
func words() map[string]struct {
	behind string
	want   Command
} {
	return map[string]struct {
		behind string
		want   Command
	}{
		"helo": {" a", Command{Kind: Helo, Arg: "a"}}, "ehlo": {" a", Command{Kind: Ehlo, Arg: "a"}},
		"mail": {" from:<a@b>", Command{Kind: Mail, Path: mailbox("a", "b"), Size: -1}}, "rcpt": {" to:<a@b>", Command{Kind: Rcpt, Path: mailbox("a", "b")}},
		"data": {"", Command{Kind: Data}}, "rset": {"", Command{Kind: Rset}}, "quit": {"", Command{Kind: Quit}},
		"noop": {" a", Command{Kind: Noop, Arg: "a"}}, "vrfy": {" a", Command{Kind: Vrfy, Arg: "a"}},
	}
}

// cases calls for a text with its letters in each case.
func cases(s string, call func(s string)) {
	for n := range 1 << len(s) {
		b := []byte(strings.ToLower(s))
		for i := range b {
			if n>>i&1 == 1 && b[i] >= 'a' && b[i] <= 'z' {
				b[i] -= 'a' - 'A'
			}
		}
		call(string(b))
	}
}

func TestWordsCases(t *testing.T) {
	for word, c := range words() {
		cases(word, func(s string) { parses(t, s+c.behind, c.want) })
	}
}

// TestWordsBytes: of each word each byte is each other, goes, and has each byte ahead of it or behind it.
func TestWordsBytes(t *testing.T) {
	for word, c := range words() {
		for i := range len(word) + 1 {
			for n := range 256 {
				b := string([]byte{byte(n)})
				if n != ' ' {
					fails(t, word[:i]+b+word[i:]+c.behind, 500)
				} else if i < len(word) {
					fails(t, word[:i]+b+word[i:]+c.behind, 500) // the word is its front alone
				}
				if i == len(word) {
					continue
				}
				if s := word[:i] + b + word[i+1:]; isWord(s, word) {
					parses(t, s+c.behind, c.want)
				} else {
					fails(t, s+c.behind, 500)
				}
			}
			if i < len(word) {
				fails(t, word[:i]+word[i+1:]+c.behind, 500)
				fails(t, word[:i]+c.behind, 500)
				fails(t, word[i+1:]+c.behind, 500)
			}
		}
		fails(t, word+word+c.behind, 500)
		fails(t, word+"\t"+c.behind, 500)
		fails(t, word+"\t"+strings.TrimLeft(c.behind, " "), 500)
		fails(t, word+":"+c.behind, 500)
	}
}

func TestOtherWords(t *testing.T) {
	for _, s := range []string{"foo", "foo bar", "x", "bad", "help", "expn a", "starttls", "auth plain", "turn", "size=9", "from:<a@b>", "to:<a@b>", "<a@b>", "<>", ":", "-", "~", "helo:a", "mailfrom:<a@b>", "mail:from:<a@b>", "rcptto:<a@b>", "hel o a", "da ta", "0", "1", "9", "250 ok"} {
		fails(t, s, 500)
		fails(t, strings.ToUpper(s), 500)
	}
	fails(t, strings.Repeat("x", 100000), 500)
	fails(t, strings.Repeat("noop", 100000), 500)
}
