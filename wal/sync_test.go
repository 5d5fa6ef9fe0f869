package wal

import (
	"strings"
	"testing"

	"mailbag/api"
)

func TestPending(t *testing.T) {
	_, l := made(t, 3)
	for i := range 3 {
		put(t, l, i, "a")
		if l.Pending() != i+1 {
			t.Errorf("P402: %d pending behind %d", l.Pending(), i+1)
		}
	}
	put(t, l, 0, "")
	if l.Pending() != 4 {
		t.Errorf("P402: %d pending, with one that wrote nothing", l.Pending())
	}
	sync(t, l)
	put(t, l, 0, "")
	if l.Pending() != 1 {
		t.Errorf("P402: %d pending behind Sync", l.Pending())
	}
	for range 2 {
		sync(t, l)
		if l.Pending() != 0 {
			t.Errorf("P402: %d pending behind Sync", l.Pending())
		}
	}
}

func TestSyncWithoutPower(t *testing.T) {
	for pending := range 3 {
		d, l := made(t, 3)
		for n := range pending {
			put(t, l, n, "a")
		}
		d.Cut()
		if e := l.Sync(); e != api.ErrDown || l.Pending() != pending {
			t.Errorf("P403: Sync of %d without power: %v", pending, e)
		}
	}
}

func TestSyncLasts(t *testing.T) {
	d, l := made(t, 4)
	for _, picks := range [][]int{nil, {1}, {1, 1, 1, 1, 1, 1}} {
		put(t, l, 0, "ab")
		put(t, l, 1, "xy")
		sync(t, l)
		if state(l) != "axy." || d.Waiting() != 0 {
			t.Errorf("P403: %s behind Sync, and %d wait", state(l), d.Waiting())
		}
		put(t, l, 0, "ABCD")
		if l = again(t, d, picks...); state(l) != "axy." {
			t.Errorf("P403: %s lasted", state(l))
		}
	}
}

// TestSyncInATransaction: one that is open is not synced, and goes on.
func TestSyncInATransaction(t *testing.T) {
	d, l := made(t, 3)
	put(t, l, 0, "a")
	x := begin(t, l)
	write(t, x, 0, "xy")
	sync(t, l)
	if state(l) != "a.." || read(x, 3) != "xy." || x.Writes() != 2 || l.Pending() != 0 {
		t.Errorf("P403: %s in the log, %s in the transaction", state(l), read(x, 3))
	}
	write(t, x, 2, "z")
	if twin := d.Twin(); state(again(t, twin)) != "a.." {
		t.Error("P403: what was not committed lasted")
	}
	if x.Commit() != api.OK || state(l) != "xyz" || l.Pending() != 1 {
		t.Error("P403: a transaction behind Sync")
	}
	sync(t, l)
	if got := state(again(t, d)); got != "xyz" {
		t.Errorf("P403: %s lasted", got)
	}
}

// TestRoomTogether: how many unlike blocks transactions have written together, and whether the last one's Commit syncs.
func TestRoomTogether(t *testing.T) {
	for name, c := range map[string]struct {
		from, size []int
		syncs      bool
	}{
		"just room":            {[]int{0, 30}, []int{30, 33}, false},
		"one more":             {[]int{0, 30}, []int{30, 34}, true},
		"one more, in steps":   {[]int{0, 30, 60, 62, 63}, []int{30, 30, 2, 1, 1}, true},
		"just room, in steps":  {[]int{0, 30, 60, 62, 62}, []int{30, 30, 2, 1, 1}, false},
		"all of them again":    {[]int{0, 0, 0}, []int{63, 63, 63}, false},
		"all of them, shifted": {[]int{0, 1}, []int{63, 63}, true},
		"two that share one":   {[]int{0, 31}, []int{32, 32}, false},
		"nothing, when full":   {[]int{0, 5}, []int{63, 0}, false},
		"one that is there":    {[]int{0, 62}, []int{63, 1}, false},
		"one that is not":      {[]int{0, 63}, []int{63, 1}, true},
		"full behind one":      {[]int{69, 0}, []int{1, 63}, true},
	} {
		d, l := made(t, 70)
		want, ahead := strings.Repeat(".", 70), ""
		was := d.Writes()
		for i, n := range c.from {
			ahead = want
			letters := strings.Repeat(string(rune('a'+i)), c.size[i])
			want = want[:n] + letters + want[n+c.size[i]:]
			put(t, l, n, letters)
		}
		pending, lasted := len(c.from), strings.Repeat(".", 70)
		if c.syncs {
			pending, lasted = 1, ahead
		}
		if l.Pending() != pending || (d.Writes() != was) != c.syncs || state(l) != want {
			t.Errorf("P402: %s: %d pending; want %d: %s", name, l.Pending(), pending, state(l))
		}
		if got := state(again(t, d.Twin())); got != lasted {
			t.Errorf("P402: %s: %s lasted; want %s", name, got, lasted)
		}
		if sync(t, l); l.Pending() != 0 || state(again(t, d)) != want {
			t.Errorf("P403: %s: %s lasted; want %s", name, state(open(t, d)), want)
		}
	}
}

// TestRoomBehindSync: what was synced counts no more.
func TestRoomBehindSync(t *testing.T) {
	_, l := made(t, 70)
	put(t, l, 0, strings.Repeat("a", 63))
	sync(t, l)
	put(t, l, 7, strings.Repeat("b", 60))
	put(t, l, 67, "ccc")
	if l.Pending() != 2 {
		t.Errorf("P402: %d pending; want 2", l.Pending())
	}
	put(t, l, 0, "d")
	put(t, l, 1, "e")
	if l.Pending() != 2 {
		t.Errorf("P402: %d pending behind the Sync of a Commit; want 2", l.Pending())
	}
}

// TestSyncOfCommitFails: the power goes at each Write of the Sync that a Commit does first.
func TestSyncOfCommitFails(t *testing.T) {
	first, second := strings.Repeat("a", 63)+"..", strings.Repeat(".", 65)
	failed := 0
	for at := 1; ; at++ {
		d, l := made(t, 65)
		put(t, l, 0, first[:63])
		x := begin(t, l)
		write(t, x, 62, "xyz")
		d.Arm(at, 1, 0, 1)
		e := x.Commit()
		if e == api.OK {
			break
		}
		failed++
		if e != api.ErrDown || x.Commit() != api.ErrOrder || !d.Off() {
			t.Fatalf("P402: at %d: Commit: %v", at, e)
		}
		d.On()
		if got := state(open(t, d)); got != first && got != second {
			t.Errorf("P402: at %d: %s", at, got)
		}
	}
	if failed < 63 {
		t.Errorf("P402: the Sync of a Commit failed at %d places", failed)
	}
}
