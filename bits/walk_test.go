package bits

import (
	"fmt"
	"math"
	"math/rand/v2"
	"strings"
	"testing"
)

// digits is a map as a text, a digit a bit, bit 0 first.
type digits string

func written(m Map) digits {
	var b strings.Builder
	for _, x := range m {
		for range 8 {
			b.WriteByte('0' + x%2)
			x /= 2
		}
	}
	return digits(b.String())
}

// part is the digits from from on, below past, and where they begin.
func (d digits) part(from, past int) (string, int) {
	if from < 0 {
		from = 0
	}
	if past > len(d) {
		past = len(d)
	}
	if from >= past {
		return "", 0
	}
	return string(d[from:past]), from
}

func (d digits) run(from, past, n int) (int, bool) {
	text, begin := d.part(from, past)
	if n < 1 || n > len(text) {
		return 0, false
	}
	i := strings.Index(text, strings.Repeat("0", n))
	if i < 0 {
		return 0, false
	}
	return begin + i, true
}

func (d digits) count(from, past int) int {
	text, _ := d.part(from, past)
	return strings.Count(text, "1")
}

// change makes digit i the one that is handed in; whether that changed it.
func (d digits) change(i int, to string) (digits, bool) {
	if i < 0 || i >= len(d) || string(d[i]) == to {
		return d, false
	}
	return d[:i] + digits(to) + d[i+1:], true
}

// alike holds what a map answers against what its digits do.
func alike(t *testing.T, m Map, d digits, from, past, n int) {
	t.Helper()
	i, ok := m.Run(from, past, n)
	if j, is := d.run(from, past, n); i != j || ok != is {
		t.Fatalf("P501: Run(%d, %d, %d) of %s: %d, %v; want %d, %v", from, past, n, d, i, ok, j, is)
	}
	i, ok = m.First(from, past)
	if j, is := d.run(from, past, 1); i != j || ok != is {
		t.Fatalf("P501: First(%d, %d) of %s: %d, %v; want %d, %v", from, past, d, i, ok, j, is)
	}
	if got, want := m.Count(from, past), d.count(from, past); got != want {
		t.Fatalf("P501: Count(%d, %d) of %s: %d; want %d", from, past, d, got, want)
	}
}

// TestAllMapsOfOneByte has all places in and around them.
func TestAllMapsOfOneByte(t *testing.T) {
	places := []int{math.MinInt, -1, 0, 1, 2, 3, 4, 5, 6, 7, 8, 9, math.MaxInt}
	for x := range 256 {
		m := Map{byte(x)}
		d := written(m)
		for _, from := range places {
			for _, past := range places {
				for _, n := range places {
					alike(t, m, d, from, past, n)
				}
			}
		}
	}
}

// TestAllMapsOfTwoBytes has runs of each length over the edge between them.
func TestAllMapsOfTwoBytes(t *testing.T) {
	for x := range 1 << 16 {
		m := Map{byte(x), byte(x >> 8)}
		d := written(m)
		for n := range 18 {
			alike(t, m, d, x%7, 16-x%5, n)
		}
	}
}

func TestWalks(t *testing.T) {
	for seed := range uint64(60) {
		dice := rand.New(rand.NewPCG(seed, 5))
		m, _ := New(dice.IntN(60))
		d := written(m)
		place := func() int { return dice.IntN(len(d)+6) - 3 }
		for step := range 400 {
			i, to, call := place(), "1", m.Set
			if step/100%2 == 1 && dice.IntN(3) > 0 { // the map fills, and empties again
				to, call = "0", m.Clear
			}
			next, want := d.change(i, to)
			if got := call(i); got != want || written(m) != next {
				t.Fatalf("P501: walk %d, %s to bit %d of %s: %v, %s; want %v", seed, to, i, d, got, written(m), want)
			}
			d = next
			if got, want := m.Has(i), i >= 0 && i < len(d) && to == "1"; got != want {
				t.Fatalf("P501: walk %d, Has(%d) of %s: %v", seed, i, d, got)
			}
			alike(t, m, d, place(), place(), dice.IntN(12)-1)
		}
	}
}

func TestSameCallsAnswerTheSame(t *testing.T) {
	for range 3 {
		m, e := New(20)
		told := fmt.Sprint(e, m.Set(3), m.Set(3), m.Set(11), m.Clear(3), m.Clear(4), m, m.Has(11), m.Count(0, 20))
		first, ok := m.First(11, 20)
		run, is := m.Run(0, 20, 12)
		told += fmt.Sprint(" ", first, ok, run, is)
		if want := "ok true false true true false [0 8 0] true 1 12 true 0 false"; told != want {
			t.Errorf("P3: %s; want %s", told, want)
		}
	}
}
