package line

import (
	"math"
	"testing"
)

// mosts asks whether that bound was taken.
func mosts(t *testing.T, s *Splitter, most int, want bool) {
	t.Helper()
	if got := s.Most(most); got != want {
		t.Errorf("P1301: Most(%d): %v; want %v", most, got, want)
	}
}

// bounded asks for that bound by lines just around it, and leaves no byte of a line.
func bounded(t *testing.T, s *Splitter, most int) {
	t.Helper()
	feeds(t, s, x(most-2)+"\r\n"+x(most-1)+"\r\n", told(x(most-2)), tooLong(x(most-2)))
}

func TestMostOfBounds(t *testing.T) {
	s := made(t, 100)
	for _, most := range bounds() {
		mosts(t, s, most, true)
		holds(t, s, 0)
		bounded(t, s, most)
		mosts(t, s, most, true)
		bounded(t, s, most)
		for _, not := range []int{1, 0, -1, -2, -most, 1<<16 + 1, 1<<16 + most, 1<<32 + most, math.MaxInt32, math.MinInt32, math.MaxInt, math.MinInt} {
			mosts(t, s, not, false)
		}
		bounded(t, s, most)
	}
}

func TestMostAtOnce(t *testing.T) {
	for _, from := range bounds() {
		for _, to := range bounds() {
			s := made(t, from)
			mosts(t, s, to, true)
			bounded(t, s, to)
		}
	}
}

// refusesMost asks that no bound is taken, and that the line goes on under its own, as the next one does.
func refusesMost(t *testing.T, s *Splitter, held int) {
	t.Helper()
	for _, most := range append(bounds(), 1, 0, -1, 1<<16+1) {
		mosts(t, s, most, false)
		holds(t, s, held)
	}
}

func TestMostWithinALine(t *testing.T) {
	for _, most := range bounds() {
		s, fits := made(t, most), x(most-2)
		feeds(t, s, "\r")
		refusesMost(t, s, 1)
		feeds(t, s, "\n", told(""))
		if most > 2 {
			feeds(t, s, "x")
			refusesMost(t, s, 1)
			feeds(t, s, x(most-3)+"\r\n", told(fits))
			nothing(t, s, "\n")
			refusesMost(t, s, 1)
			feeds(t, s, "\r")
			refusesMost(t, s, 2)
			feeds(t, s, "\n", told("\n"))
		}
		feeds(t, s, fits+"\r")
		refusesMost(t, s, most-1)
		feeds(t, s, "\n", told(fits))
		feeds(t, s, fits+"y")
		refusesMost(t, s, most-2)
		feeds(t, s, "\r")
		refusesMost(t, s, most-1)
		feeds(t, s, "\n", tooLong(fits))
		bounded(t, s, most)
	}
}

// TestMostOfTheLeastBound: a byte of a line is taken, though none of its text is held.
func TestMostOfTheLeastBound(t *testing.T) {
	s := made(t, 2)
	feeds(t, s, "a")
	holds(t, s, 0)
	mosts(t, s, 10, false)
	nothing(t, s, "\rb")
	holds(t, s, 0)
	mosts(t, s, 10, false)
	feeds(t, s, "\r\n", tooLong(""))
	mosts(t, s, 10, true)
	bounded(t, s, 10)
}

func TestMostBetweenLines(t *testing.T) {
	s := made(t, 6)
	feeds(t, s, "")
	nothing(t, s, "")
	mosts(t, s, 5, true)
	feeds(t, s, "1234\r\n", tooLong("123"))
	mosts(t, s, 7, true)
	nexts(t, s, "12345\r\n12", told("12345"), "12")
	mosts(t, s, 3, true)
	nexts(t, s, "12\r\n1\r\n", tooLong("1"), "1\r\n")
	mosts(t, s, 1<<16, true)
	mosts(t, s, 4, true)
	feeds(t, s, "12\r\n123\r\n\r\n", told("12"), tooLong("12"), told(""))
	mosts(t, s, 1, false)
	feeds(t, s, "12\r\n123\r\n", told("12"), tooLong("12"))
}

// TestMostBehindAReset: what was taken of a line is no longer there, and its bound stays.
func TestMostBehindAReset(t *testing.T) {
	for _, in := range []string{"", "a", "\r", "\n", "a\r", "1234\r", "12345", "12345\r", "12345\ra"} {
		s := made(t, 6)
		feeds(t, s, in)
		s.Reset()
		bounded(t, s, 6)
		feeds(t, s, in)
		s.Reset()
		mosts(t, s, 1, false)
		bounded(t, s, 6)
		feeds(t, s, in)
		s.Reset()
		mosts(t, s, 9, true)
		bounded(t, s, 9)
		feeds(t, s, in)
		s.Reset()
		bounded(t, s, 9)
	}
}
