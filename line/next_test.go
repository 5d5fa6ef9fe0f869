package line

import (
	"strings"
	"testing"
)

// nexts asks for that line, and for what is left.
func nexts(t *testing.T, s *Splitter, in string, want Line, left string) {
	t.Helper()
	if l, ok, rest := s.Next([]byte(in)); l != want || !ok || string(rest) != left {
		t.Errorf("P1301: Next(%s): %s, %v, %s; want %s and %s", brief(in), shown([]Line{l}), ok, brief(string(rest)), shown([]Line{want}), brief(left))
	}
}

// nothing asks for no line, and for nothing beside that (P4).
func nothing(t *testing.T, s *Splitter, in string) {
	t.Helper()
	if l, ok, rest := s.Next([]byte(in)); l != (Line{}) || ok || len(rest) != 0 {
		t.Errorf("P1301: Next(%s): %s, %v, %s; want nothing", brief(in), shown([]Line{l}), ok, brief(string(rest)))
	}
}

func TestNextOfLines(t *testing.T) {
	s := made(t, 512)
	nexts(t, s, "one\r\n", told("one"), "")
	nexts(t, s, "one\r\ntwo\r\nthree\r\n", told("one"), "two\r\nthree\r\n")
	nexts(t, s, "two\r\nthree\r\n", told("two"), "three\r\n")
	nexts(t, s, "three\r\nfo", told("three"), "fo")
	nothing(t, s, "fo")
	nexts(t, s, "ur\r\n", told("four"), "")
	nexts(t, s, "\r\n", told(""), "")
	nexts(t, s, "\r\n\r\n", told(""), "\r\n")
	nexts(t, s, "\r\n\n", told(""), "\n")
	nexts(t, s, "\r\n\r", told(""), "\r")
	nexts(t, s, "a\r\r\n\r\n", told("a\r"), "\r\n")
}

func TestNextWithoutAnEnd(t *testing.T) {
	s := made(t, 20)
	nothing(t, s, "")
	holds(t, s, 0)
	for _, in := range []string{"a", "bc", "", "\n", "\n\n", "\rd", "\r", "\r", "", "e\r"} {
		nothing(t, s, in)
	}
	nothing(t, s, "")
	nexts(t, s, "\nf\r\n", told("abc\n\n\n\rd\r\re"), "f\r\n")
	if _, _, rest := s.Next(nil); len(rest) != 0 {
		t.Errorf("P1301: Next of no bytes leaves %q", rest)
	}
	holds(t, s, 0)
}

// TestNextTakesNoMore: what is left counts as not taken; it is a line's first bytes when it is handed in.
func TestNextTakesNoMore(t *testing.T) {
	s := made(t, 6)
	nexts(t, s, "a\r\nbcd", told("a"), "bcd")
	holds(t, s, 0)
	mosts(t, s, 6, true)
	nexts(t, s, "efgh\r\n", told("efgh"), "")
	nexts(t, s, "12345\r\n67", tooLong("1234"), "67")
	holds(t, s, 0)
	nexts(t, s, "67\r\n", told("67"), "")
}

// TestNextOfLongLines has ends far behind the bound.
func TestNextOfLongLines(t *testing.T) {
	for _, most := range bounds() {
		s := made(t, most)
		fits := x(most - 2)
		nexts(t, s, fits+"\r\n"+fits, told(fits), fits)
		for _, more := range []string{"y", "\n", "\ry", "\r", "\n\r", strings.Repeat("y\n\r", 1<<16)} {
			nexts(t, s, fits+more+"\r\n"+more+"\r\n", tooLong(fits), more+"\r\n")
			nothing(t, s, fits+more)
			nothing(t, s, "y")
			nothing(t, s, "")
			nothing(t, s, "\r")
			nexts(t, s, "\n\n", tooLong(fits), "\n")
		}
	}
}

func TestNextOfBytes(t *testing.T) {
	for n := range 256 {
		c := string([]byte{byte(n)})
		s := made(t, 6)
		nexts(t, s, "ab\r\n"+c, told("ab"), c)
		nexts(t, s, "abcde\r\n"+c+c, tooLong("abcd"), c+c)
		if n == '\r' || n == '\n' {
			continue
		}
		nothing(t, s, c+"\r"+c+"\n")
		nexts(t, s, "\r\n"+c+"\r\n", told(c+"\r"+c+"\n"), c+"\r\n")
	}
}

// TestNextAndFeed: each goes on where the other one left off, in the middle of a line too.
func TestNextAndFeed(t *testing.T) {
	s := made(t, 8)
	feeds(t, s, "ab")
	nexts(t, s, "cd\r\nef\r\n", told("abcd"), "ef\r\n")
	feeds(t, s, "ef\r\ngh", told("ef"))
	nothing(t, s, "ij")
	feeds(t, s, "\r")
	nexts(t, s, "\nkl", told("ghij"), "kl")
	nothing(t, s, "kl\r")
	feeds(t, s, "\nm\r\nn", told("kl"), told("m"))
	nexts(t, s, "\r\n", told("n"), "")
	nothing(t, s, "op\r")
	feeds(t, s, "q\r\r")
	nexts(t, s, "\n", told("op\rq\r"), "")
	feeds(t, s, "123456")
	nothing(t, s, "7")
	feeds(t, s, "8")
	nexts(t, s, "\r\n\r\n", tooLong("123456"), "\r\n")
	nothing(t, s, "1234567")
	feeds(t, s, "\r\n\r\n1234567\r", tooLong("123456"), told(""))
	nexts(t, s, "\n\r\n", tooLong("123456"), "\r\n")
}
