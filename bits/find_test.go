package bits

import (
	"math"
	"testing"
)

// front is as much of a map as a message may show.
func front(m Map) Map { return m[:min(len(m), 8)] }

func find(t *testing.T, m Map, from, past, n, want int) {
	t.Helper()
	i, ok := m.Run(from, past, n)
	if ok != (want >= 0) || i != max(want, 0) {
		t.Errorf("P501: Run(%d, %d, %d) of % x: %d, %v; want %d", from, past, n, front(m), i, ok, want)
	}
	if n != 1 {
		return
	}
	i, ok = m.First(from, past)
	if ok != (want >= 0) || i != max(want, 0) {
		t.Errorf("P501: First(%d, %d) of % x: %d, %v; want %d", from, past, front(m), i, ok, want)
	}
}

// TestFirst holds Run of 1, too, to what First must answer.
func TestFirst(t *testing.T) {
	m := Map{0x0F, 0xF0, 0xFF, 0x7F} // bits 4 to 11 are 0, and 31, the last one
	for _, c := range []struct{ from, past, want int }{
		{0, 32, 4}, {0, 5, 4}, {0, 4, -1}, {3, 5, 4}, {4, 5, 4}, {4, 4, -1}, {5, 4, -1}, {5, 5, -1},
		{7, 8, 7}, {7, 9, 7}, {8, 9, 8}, {11, 12, 11}, {12, 31, -1}, {12, 32, 31}, {31, 32, 31},
		{12, 33, 31}, {31, math.MaxInt, 31}, {32, 33, -1}, {32, 32, -1}, {33, 99, -1}, {32, math.MaxInt, -1},
		{-1, 32, 4}, {-1, 4, -1}, {-1, 0, -1}, {-9, -1, -1}, {-1, -9, -1}, {0, 0, -1}, {0, -1, -1}, {9, 2, -1},
		{math.MinInt, 5, 4}, {math.MinInt, math.MaxInt, 4}, {math.MinInt, math.MinInt, -1}, {math.MinInt, 0, -1},
		{math.MaxInt, math.MaxInt, -1}, {math.MaxInt, math.MinInt, -1}, {math.MaxInt, 32, -1}, {5, math.MinInt, -1},
		{math.MaxInt - 1, math.MaxInt, -1}, {0, math.MaxInt, 4}, {math.MinInt, math.MinInt + 1, -1},
	} {
		find(t, m, c.from, c.past, 1, c.want)
	}
	for _, past := range []int{1, 8, 9, math.MaxInt} {
		find(t, Map{0, 0}, 0, past, 1, 0)
		find(t, Map{0, 0}, -3, past, 1, 0)
		find(t, Map{0xFF, 0xFF}, 0, past, 1, -1)
		find(t, Map{0xFE}, -1, past, 1, 0)
	}
}

func TestRun(t *testing.T) {
	m := Map{0x0F, 0xF0, 0xCE, 0x00} // bits 4 to 11 are 0, 16, 20 and 21, and 24 to 31
	for _, c := range []struct{ from, past, n, want int }{
		{0, 32, 2, 4}, {0, 32, 7, 4}, {0, 32, 8, 4}, {0, 32, 9, -1}, {0, 99, 9, -1}, // just as many as stand in a row, and one more
		{0, 12, 8, 4}, {0, 11, 8, -1}, {0, 11, 7, 4}, {0, 5, 1, 4}, {0, 5, 2, -1}, {0, 6, 2, 4}, // up to past, and one further
		{4, 12, 8, 4}, {5, 12, 8, -1}, {5, 32, 8, 24}, {5, 12, 7, 5}, {4, 12, 9, -1},
		{6, 10, 4, 6}, {6, 10, 5, -1}, {7, 9, 2, 7}, {7, 8, 2, -1}, {8, 12, 4, 8}, {8, 12, 5, -1}, // over the edges of bytes
		{12, 32, 1, 16}, {12, 32, 2, 20}, {12, 32, 3, 24}, {16, 22, 3, -1}, {16, 22, 2, 20}, {17, 22, 2, 20}, {21, 32, 2, 24},
		{0, 99, 8, 4}, {25, 99, 7, 25}, {25, 99, 8, -1}, {25, math.MaxInt, 7, 25}, {26, math.MaxInt, 7, -1}, {31, 33, 2, -1}, // no bits behind the last
		{-1, 32, 8, 4}, {-4, 12, 9, -1}, {math.MinInt, math.MaxInt, 8, 4}, {math.MinInt, 12, 8, 4}, {math.MinInt, math.MaxInt, 9, -1},
		{9, 2, 1, -1}, {4, 4, 1, -1}, {32, 99, 1, -1}, {math.MaxInt, math.MinInt, 1, -1}, {math.MaxInt, math.MaxInt, 1, -1}, {math.MinInt, math.MinInt, 1, -1},
		{math.MaxInt, math.MinInt, 2, -1}, {5, math.MinInt, 2, -1}, {math.MaxInt - 1, math.MaxInt, 2, -1},
	} {
		find(t, m, c.from, c.past, c.n, c.want)
	}
	for _, n := range []int{0, -1, -8, math.MinInt, math.MinInt + 1, 33, 1 << 32, math.MaxInt - 1, math.MaxInt} {
		for _, from := range []int{math.MinInt, -1, 0, 4, 24, 31, 32, math.MaxInt} {
			for _, past := range []int{math.MinInt, 0, 5, 32, 33, math.MaxInt} {
				find(t, m, from, past, n, -1)
				find(t, Map{0, 0, 0, 0}, from, past, n, -1)
			}
		}
	}
}

// TestRunOfBytes has runs that begin and end at each place, and are whole bytes long.
func TestRunOfBytes(t *testing.T) {
	const last = 40
	for from := range last {
		for past := from + 1; past <= last; past++ {
			m := Map{0xFF, 0xFF, 0xFF, 0xFF, 0xFF}
			for i := from; i < past; i++ {
				m.Clear(i)
			}
			n := past - from
			find(t, m, 0, last, n, from)
			find(t, m, 0, last, n+1, -1)
			find(t, m, from, past, n, from)
			find(t, m, from, past-1, n, -1)
			find(t, m, from+1, last, n, -1)
			find(t, m, 0, last, 1, from)
		}
	}
}

func count(t *testing.T, m Map, from, past, want int) {
	t.Helper()
	if got := m.Count(from, past); got != want {
		t.Errorf("P501: Count(%d, %d) of % x: %d; want %d", from, past, front(m), got, want)
	}
}

func TestCount(t *testing.T) {
	m := Map{0x0F, 0xF0, 0x81} // bits 0 to 3 are 1, 12 to 16, and 23, the last one
	for _, c := range []struct{ from, past, want int }{
		{0, 24, 10}, {0, 0, 0}, {0, 1, 1}, {0, 4, 4}, {0, 5, 4}, {3, 4, 1}, {4, 12, 0}, {4, 13, 1}, {3, 13, 2},
		{7, 9, 0}, {15, 16, 1}, {15, 17, 2}, {16, 17, 1}, {12, 17, 5}, {17, 23, 0}, {17, 24, 1}, {23, 24, 1}, {0, 23, 9},
		{0, 25, 10}, {0, 99, 10}, {0, math.MaxInt, 10}, {23, math.MaxInt, 1}, {24, 25, 0}, {24, math.MaxInt, 0},
		{-1, 24, 10}, {-5, 1, 1}, {-1, 0, 0}, {-9, -1, 0}, {-1, -9, 0}, {0, -1, 0}, {9, 2, 0}, {2, 2, 0}, {3, 2, 0},
		{math.MinInt, 2, 2}, {math.MinInt, math.MaxInt, 10}, {math.MinInt, math.MinInt, 0}, {math.MinInt, 0, 0},
		{math.MaxInt, math.MaxInt, 0}, {math.MaxInt, math.MinInt, 0}, {math.MaxInt, 24, 0}, {2, math.MinInt, 0},
		{math.MaxInt - 1, math.MaxInt, 0}, {math.MinInt, math.MinInt + 1, 0},
	} {
		count(t, m, c.from, c.past, c.want)
	}
	count(t, Map{0xFF, 0xFF}, 0, 16, 16)
	count(t, Map{0xFF, 0xFF}, 1, 15, 14)
	count(t, Map{0, 0}, 0, 16, 0)
}

func TestMapWithoutBytes(t *testing.T) {
	places := []int{math.MinInt, -1, 0, 1, 8, math.MaxInt}
	for _, m := range []Map{nil, {}, make(Map, 0, 8)} {
		for _, from := range places {
			for _, past := range places {
				for _, n := range places {
					find(t, m, from, past, n, -1)
				}
				count(t, m, from, past, 0)
			}
		}
	}
}

func TestGreatestMap(t *testing.T) {
	const last = 1<<20 - 1
	m, _ := New(1 << 20)
	find(t, m, 0, last+1, last+1, 0)
	find(t, m, 0, last+1, last+2, -1)
	for i := range last {
		m.Set(i)
	}
	count(t, m, math.MinInt, math.MaxInt, last)
	find(t, m, 0, math.MaxInt, 1, last)
	find(t, m, 0, last, 1, -1)
	m.Set(last)
	count(t, m, 0, last+1, last+1)
	find(t, m, 0, last+1, 1, -1)
	m.Clear(12345)
	find(t, m, 0, last+1, 1, 12345)
}
