package line

import (
	"math"
	"strings"
	"testing"

	"mailbag/api"
)

func x(n int) string { return strings.Repeat("x", n) }

// told is a line that is not too long.
func told(text string) Line { return Line{Text: text} }

// tooLong is a line of which only that much is told.
func tooLong(text string) Line { return Line{Text: text, Long: true} }

func made(t *testing.T, most int) *Splitter {
	t.Helper()
	s, e := New(most)
	if e != api.OK || s == nil {
		t.Fatalf("P1301: New(%d): %v, %v", most, s, e)
	}
	return s
}

// TestNewOfBounds: a bound of just those that may be; P4: no splitter beside an error.
func TestNewOfBounds(t *testing.T) {
	for _, most := range []int{2, 3, 4, 5, 100, 512, 1000, 1<<16 - 1, 1 << 16} {
		holds(t, made(t, most), 0)
	}
	for _, most := range []int{1, 0, -1, -2, -512, 1<<16 + 1, 1<<16 + 2, 1 << 17, 1 << 20, 1<<32 + 2, 1<<32 + 512, math.MaxInt32, math.MinInt32, math.MaxInt, math.MinInt} {
		if s, e := New(most); s != nil || e != api.ErrArg {
			t.Errorf("P1301: New(%d): %v, %v; want none and %v", most, s, e, api.ErrArg)
		}
	}
}

// TestNewAlone: P7: of two splitters none tells of what the other one took.
func TestNewAlone(t *testing.T) {
	one, two := made(t, 10), made(t, 10)
	feeds(t, one, "abc")
	holds(t, two, 0)
	mosts(t, two, 5, true)
	feeds(t, two, "d\r")
	holds(t, one, 3)
	feeds(t, one, "defgh\r\n", told("abcdefgh"))
	holds(t, two, 2)
	two.Reset()
	feeds(t, one, "i\r")
	holds(t, two, 0)
	feeds(t, two, "\n\r\n", told("\n"))
	feeds(t, one, "\n12345678\r\n", told("i"), told("12345678"))
	feeds(t, two, "12345678\r\n", tooLong("123"))
}

// TestNoNewAtAll: P1: a splitter that New did not make has no bound; nothing is promised of it but that calls end.
func TestNoNewAtAll(t *testing.T) {
	for _, in := range []string{"", "a", "\r", "\n", "\r\n", "\r\r\n", "ab\rc\r\nd", x(1<<16+1) + "\r\n"} {
		var s Splitter
		s.Held()
		s.Feed([]byte(in))
		s.Held()
		s.Next([]byte(in))
		s.Most(1)
		s.Reset()
		s.Most(2)
		feeds(t, &s, "\r\na\r\n", told(""), tooLong(""))
	}
}
