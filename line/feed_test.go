package line

import (
	"slices"
	"strings"
	"testing"
)

// feeds asks for just those lines.
func feeds(t *testing.T, s *Splitter, in string, want ...Line) {
	t.Helper()
	if got := s.Feed([]byte(in)); !slices.Equal(got, want) {
		t.Errorf("P1301: Feed(%s): %s; want %s", brief(in), shown(got), shown(want))
	}
}

// brief is a text for a message, cut if it is a great one.
func brief(s string) string {
	if len(s) > 100 {
		s = s[:50] + " .. " + s[len(s)-40:]
	}
	return strings.NewReplacer("\r", `\r`, "\n", `\n`).Replace(s)
}

func shown(lines []Line) string {
	all := []string{}
	for _, l := range lines {
		kind := ""
		if l.Long {
			kind = "long "
		}
		all = append(all, kind+"'"+brief(l.Text)+"'")
	}
	return "[" + strings.Join(all, " ") + "]"
}

func TestFeedOfLines(t *testing.T) {
	s := made(t, 512)
	feeds(t, s, "HELO a.example\r\n", told("HELO a.example"))
	feeds(t, s, "one\r\ntwo\r\nthree\r\n", told("one"), told("two"), told("three"))
	feeds(t, s, "")
	feeds(t, s, "fo")
	feeds(t, s, "")
	feeds(t, s, "ur")
	feeds(t, s, "\r\nfive\r\nsi", told("four"), told("five"))
	if got := s.Feed(nil); len(got) != 0 {
		t.Errorf("P1301: Feed of no bytes: %s", shown(got))
	}
	feeds(t, s, "x\r\n", told("six"))
	feeds(t, s, "b\r\na\r\nb\r\n", told("b"), told("a"), told("b"))
}

func TestFeedOfEmptyLines(t *testing.T) {
	for _, most := range []int{2, 3, 4, 10, 1 << 16} {
		s := made(t, most)
		feeds(t, s, "\r\n", told(""))
		feeds(t, s, "\r\n\r\n", told(""), told(""))
		feeds(t, s, "\r")
		feeds(t, s, "\n", told(""))
		feeds(t, s, "\r\n\r", told(""))
		feeds(t, s, "\n\r\n", told(""), told(""))
		feeds(t, s, strings.Repeat("\r\n", 1000), slices.Repeat([]Line{{}}, 1000)...)
	}
}

// TestFeedOfCRAndLF: but for CR LF each of them is a byte as any.
func TestFeedOfCRAndLF(t *testing.T) {
	s := made(t, 10)
	feeds(t, s, "a\rb\r\n", told("a\rb"))
	feeds(t, s, "a\nb\r\n", told("a\nb"))
	feeds(t, s, "\r\r\n", told("\r"))
	feeds(t, s, "\r\r\r\r\n", told("\r\r\r"))
	feeds(t, s, "\n\r\n", told("\n"))
	feeds(t, s, "\n\n\n\r\n", told("\n\n\n"))
	feeds(t, s, "\n\r\r\n", told("\n\r"))
	feeds(t, s, "a\n\rb\r\n", told("a\n\rb"))
	feeds(t, s, "\ra\r\n\n\r\n", told("\ra"), told("\n"))
	feeds(t, s, "a\r\r\nb\r\n\r\r\n", told("a\r"), told("b"), told("\r"))
	feeds(t, s, "\r\n\n\r\n\r\r\n", told(""), told("\n"), told("\r"))
}

// TestFeedOfParts has a CR at the end of what was taken.
func TestFeedOfParts(t *testing.T) {
	s := made(t, 10)
	feeds(t, s, "ab\r")
	feeds(t, s, "\ncd\r", told("ab"))
	feeds(t, s, "\n", told("cd"))
	feeds(t, s, "a\r")
	feeds(t, s, "b\r")
	feeds(t, s, "\r")
	feeds(t, s, "")
	feeds(t, s, "\n", told("a\rb\r"))
	feeds(t, s, "\n")
	feeds(t, s, "\r")
	feeds(t, s, "\r\n\r", told("\n\r"))
	feeds(t, s, "c\r\n", told("\rc"))
}

// TestFeedOfBytes has each byte at each kind of place; none but CR and LF are more than bytes.
func TestFeedOfBytes(t *testing.T) {
	for n := range 256 {
		if n == '\r' || n == '\n' {
			continue
		}
		c := string([]byte{byte(n)})
		s := made(t, 6)
		feeds(t, s, c+"\r\n", told(c))
		feeds(t, s, "a"+c+"b\r\n"+c, told("a"+c+"b"))
		feeds(t, s, c+c+c+"\r\n", told(c+c+c+c))
		feeds(t, s, "\r"+c+"\r\n", told("\r"+c))
		feeds(t, s, "\n"+c+"\n\r\n", told("\n"+c+"\n"))
		feeds(t, s, c+"\r\r\n", told(c+"\r"))
		feeds(t, s, "ab\r"+c+"\r\n", told("ab\r"+c))
		feeds(t, s, "abc\r"+c+"\r\n", tooLong("abc\r"))
		feeds(t, s, "abcd"+c+"\r\n"+c+"\r\n", tooLong("abcd"), told(c))
		feeds(t, s, "abcde\r"+c+"\n\r\n", tooLong("abcd"))
	}
}

// bounds are the least, the greatest and some between.
func bounds() []int { return []int{2, 3, 4, 5, 10, 511, 512, 513, 1000, 1<<16 - 1, 1 << 16} }

// TestFeedOfLongLines has lines of just the bound, CR LF too, of one byte fewer and more, and of far more.
func TestFeedOfLongLines(t *testing.T) {
	for _, most := range bounds() {
		s := made(t, most)
		if most > 2 {
			feeds(t, s, x(most-3)+"\r\n", told(x(most-3)))
		}
		feeds(t, s, x(most-2)+"\r\n", told(x(most-2)))
		for _, more := range []int{1, 2, 3, 4, 100, 1 << 16, 1 << 20} {
			text := x(most-2) + strings.Repeat("y", more)
			feeds(t, s, text+"\r\n", tooLong(x(most-2)))
			feeds(t, s, x(most-2)+"\r\n"+text+"\r\n\r\n"+text+"\r\n", told(x(most-2)), tooLong(x(most-2)), told(""), tooLong(x(most-2)))
		}
	}
}

// TestFeedOfCRAtTheBound has CRs around the last byte that fits.
func TestFeedOfCRAtTheBound(t *testing.T) {
	for _, most := range bounds() {
		s, fits := made(t, most), x(most-2)
		feeds(t, s, fits+"\r\n", told(fits))
		feeds(t, s, fits+"\r\r\n", tooLong(fits))
		feeds(t, s, fits+"\ra\r\n", tooLong(fits))
		feeds(t, s, fits+"\r\r\r\n", tooLong(fits))
		feeds(t, s, fits+"\n\r\n", tooLong(fits))
		feeds(t, s, fits+"a\rb\r\n", tooLong(fits))
		feeds(t, s, fits+"a\r\r\nb", tooLong(fits))
		feeds(t, s, "\r")
		s.Reset()
		feeds(t, s, fits+"\r")
		feeds(t, s, "\n", told(fits))
		feeds(t, s, fits+"\r")
		feeds(t, s, "a\r")
		feeds(t, s, "\n\r\n", tooLong(fits), told(""))
		if most == 2 {
			continue
		}
		fits = x(most-3) + "\r"
		feeds(t, s, fits+"\r\n", told(fits))
		feeds(t, s, fits+"a\r\n", tooLong(fits))
		feeds(t, s, fits+"\r\r\n", tooLong(fits))
		feeds(t, s, fits)
		feeds(t, s, "\r")
		feeds(t, s, "\n", told(fits))
	}
}

// TestFeedBehindALongLine: a line that is too long is nothing to those behind it.
func TestFeedBehindALongLine(t *testing.T) {
	s := made(t, 6)
	feeds(t, s, "12345\r\n1234\r\n\r\n12345\r\n123\r\n", tooLong("1234"), told("1234"), told(""), tooLong("1234"), told("123"))
	feeds(t, s, "abcdefgh")
	feeds(t, s, "ijkl")
	feeds(t, s, "\r\nmn", tooLong("abcd"))
	feeds(t, s, "op\r\n", told("mnop"))
	feeds(t, s, "abcde\n\n\r")
	feeds(t, s, "\r")
	feeds(t, s, "\na\r\n", tooLong("abcd"), told("a"))
}

// TestFeedPassesOver: of a line that is too long no more is held than may be told, however much comes.
func TestFeedPassesOver(t *testing.T) {
	s := made(t, 512)
	piece := strings.Repeat("abc\rdef\n", 1<<13)
	for range 200 {
		feeds(t, s, piece)
		holds(t, s, 510)
	}
	if room := cap(s.held); room > 2*512 {
		t.Errorf("P1301: %d bytes of room for a line of 512", room)
	}
	feeds(t, s, "\r\n", tooLong(piece[:510]))
}
