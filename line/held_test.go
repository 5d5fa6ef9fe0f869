package line

import "testing"

func holds(t *testing.T, s *Splitter, want int) {
	t.Helper()
	if got := s.Held(); got != want {
		t.Errorf("P1301: Held: %d; want %d", got, want)
	}
}

// counts asks for as many bytes behind each byte of a text, and for no line.
func counts(t *testing.T, s *Splitter, in string, want ...int) {
	t.Helper()
	for i, n := range want {
		feeds(t, s, in[i:i+1])
		if got := s.Held(); got != n {
			t.Errorf("P1301: Held behind %s: %d; want %d", brief(in[:i+1]), got, n)
		}
	}
}

func TestHeldWithinALine(t *testing.T) {
	s := made(t, 10)
	holds(t, s, 0)
	counts(t, s, "ab\rc\n\r\r", 1, 2, 3, 4, 5, 6, 7)
	feeds(t, s, "\n", told("ab\rc\n\r"))
	holds(t, s, 0)
	counts(t, s, "\r\r\r", 1, 2, 3)
	feeds(t, s, "")
	nothing(t, s, "")
	holds(t, s, 3)
	nothing(t, s, "a")
	holds(t, s, 4)
	nexts(t, s, "\r\nabc", told("\r\r\ra"), "abc")
	holds(t, s, 0)
	feeds(t, s, "a\r\nbc\r\ndef", told("a"), told("bc"))
	holds(t, s, 3)
	feeds(t, s, "\r\n\r", told("def"))
	holds(t, s, 1)
}

// TestHeldAtTheBound: a line that is too long holds what is told of it, and a CR behind that.
func TestHeldAtTheBound(t *testing.T) {
	s := made(t, 6)
	counts(t, s, "abcd\r", 1, 2, 3, 4, 5)
	feeds(t, s, "\n", told("abcd"))
	counts(t, s, "abcde\rf\r\r", 1, 2, 3, 4, 4, 5, 4, 5, 5)
	feeds(t, s, "\n", tooLong("abcd"))
	holds(t, s, 0)
	counts(t, s, "abcd\r\rg\r", 1, 2, 3, 4, 5, 5, 4, 5)
	feeds(t, s, "\n", tooLong("abcd"))
	counts(t, s, "abcd\re\n", 1, 2, 3, 4, 5, 4, 4)
	feeds(t, s, "\r\n", tooLong("abcd"))
	counts(t, s, "abc\rd\r", 1, 2, 3, 4, 4, 5)
	feeds(t, s, "\n", tooLong("abc\r"))
	counts(t, s, "abc\r\r\r", 1, 2, 3, 4, 5, 5)
	nexts(t, s, "\n\r\n", tooLong("abc\r"), "\r\n")
	holds(t, s, 0)
}

func TestHeldOfBounds(t *testing.T) {
	s := made(t, 2)
	counts(t, s, "a\r\rb\r", 0, 1, 1, 0, 1)
	feeds(t, s, "\n", tooLong(""))
	counts(t, s, "\r", 1)
	feeds(t, s, "\n", told(""))
	for _, most := range bounds() {
		s := made(t, most)
		for n := range min(most, 600) {
			holds(t, s, min(n, most-2))
			feeds(t, s, "y")
		}
		feeds(t, s, x(most))
		holds(t, s, most-2)
		feeds(t, s, "\r")
		holds(t, s, most-1)
		feeds(t, s, "\r")
		holds(t, s, most-1)
		feeds(t, s, x(1<<16))
		holds(t, s, most-2)
		nothing(t, s, x(1<<16)+"\r")
		holds(t, s, most-1)
	}
}

// TestHeldBehindMost: a bound that is taken, or not, holds nothing more and nothing less.
func TestHeldBehindMost(t *testing.T) {
	s := made(t, 6)
	mosts(t, s, 4, true)
	holds(t, s, 0)
	counts(t, s, "abc\r", 1, 2, 2, 3)
	mosts(t, s, 9, false)
	holds(t, s, 3)
	feeds(t, s, "\n", tooLong("ab"))
	mosts(t, s, 9, true)
	holds(t, s, 0)
	counts(t, s, "abcdefgh\r", 1, 2, 3, 4, 5, 6, 7, 7, 8)
}

// TestReset: nothing is held, so that what comes is a line from its beginning on.
func TestReset(t *testing.T) {
	for _, in := range []string{"", "a", "abcd", "\r", "\n", "ab\r", "abcd\r", "abcde", "abcde\r", "abcde\rf", "abcde\r\r", "a\r\nb", "a\r\n\r", "a\r\n"} {
		for _, next := range []func(s *Splitter){
			func(s *Splitter) { feeds(t, s, "\n\r\n", told("\n")) },
			func(s *Splitter) { feeds(t, s, "1234\r\n12345\r\n", told("1234"), tooLong("1234")) },
			func(s *Splitter) { nexts(t, s, "\r\n\r\n", told(""), "\r\n") },
			func(s *Splitter) { counts(t, s, "\nab\r", 1, 2, 3, 4) },
			func(s *Splitter) { s.Reset(); holds(t, s, 0) },
		} {
			s := made(t, 6)
			s.Feed([]byte(in))
			s.Reset()
			holds(t, s, 0)
			next(s)
		}
	}
	s := made(t, 6)
	s.Reset()
	holds(t, s, 0)
	bounded(t, s, 6)
}
