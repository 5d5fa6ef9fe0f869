package wal

import (
	"bytes"
	"fmt"
	"strings"
	"testing"

	"mailbag/api"
	"mailbag/block"
)

// kinds are picks of many kinds; of a log with few blocks each choice of version 0 or 1 is among them.
func kinds(few int) [][]int {
	all := [][]int{
		alike(1), alike(2), alike(-1), alike(5), {0, 1, 0, 1, 0, 1, 0, 1}, {-1, 0, -1, 0, -1, 0}, {3, 7, 1 << 40, -9},
	}
	for mask := range 1 << few {
		picks := make([]int, few)
		for i := range picks {
			picks[i] = mask >> i & 1
		}
		all = append(all, picks)
	}
	return all
}

// alike is picks that all say the same.
func alike(pick int) []int {
	all := make([]int, 200)
	for i := range all {
		all[i] = pick
	}
	return all
}

// scene is a disk, a call in which the power may go, and what Open may tell then: ahead of it, or behind it.
type scene struct {
	disk          *block.Disk
	call          func() api.Errno
	ahead, behind string
}

// whole is what Open tells of a disk, all bytes of all blocks; "form" where there is nothing to be opened.
func whole(t *testing.T, d *block.Disk) string {
	t.Helper()
	l, e := Open(d)
	if e == api.ErrForm {
		return "form"
	}
	if e != api.OK {
		t.Fatalf("P404: Open: %v", e)
	}
	return all(l)
}

// all is all bytes of all blocks of a log.
func all(l *Log) string {
	var bytes strings.Builder
	for n := range l.Blocks() {
		b, _ := l.Read(n)
		bytes.Write(b)
	}
	return bytes.String()
}

// everywhere lets the power go at each Write of a scene's call, with picks of many kinds, and then in Open, again and again.
// It tells how often what was ahead was left, how often what was behind, and how often nothing.
func everywhere(t *testing.T, few int, set func() scene) (ahead, behind, none int) {
	t.Helper()
	for at := 1; ; at++ {
		for _, picks := range kinds(few) {
			s := set()
			s.disk.Arm(at, picks...)
			if e := s.call(); e == api.OK {
				if s.disk.Arm(0); whole(t, s.disk) != s.behind {
					t.Fatal("P404: without a cut it is not what it should be")
				}
				if again(t, s.disk); whole(t, s.disk) != s.behind {
					t.Fatal("P404: what was OK was lost")
				}
				return ahead, behind, none
			} else if e != api.ErrDown || !s.disk.Off() {
				t.Fatalf("P404: at %d: %v", at, e)
			}
			s.disk.On()
			got := whole(t, s.disk.Twin())
			switch got {
			case s.ahead:
				ahead++
			case s.behind:
				behind++
			case "form":
				none++
			default:
				t.Fatalf("P404: at %d, picks %v: what is left is neither of the two", at, picks)
			}
			reopen(t, s.disk, got, fmt.Sprintf("at %d, picks %v", at, picks), few)
		}
	}
}

// reopen lets the power go at each Write of Open, once and several times: what it tells is the same each time.
func reopen(t *testing.T, d *block.Disk, want, where string, few int) {
	t.Helper()
	for at := 1; ; at++ {
		for _, picks := range kinds(few) {
			twin := d.Twin()
			cuts := 0
			for ; cuts < 4; cuts++ {
				twin.Arm(max(1, at-cuts), picks...)
				if !cutsOpen(twin) {
					break
				}
				if got := whole(t, twin.Twin()); got != want {
					t.Fatalf("P404: %s: another one behind %d cuts of Open, at %d, picks %v", where, cuts+1, at, picks)
				}
			}
			twin.On()
			if got := whole(t, twin); got != want {
				t.Fatalf("P404: %s: another one, at %d of Open, picks %v", where, at, picks)
			}
			if want != "form" {
				goesOn(t, twin, want)
			}
			if cuts == 0 {
				return
			}
		}
	}
}

// cutsOpen is whether the power went in Open; it is there again then.
func cutsOpen(d *block.Disk) bool {
	_, e := Open(d)
	if e == api.ErrDown {
		d.On()
	}
	return e == api.ErrDown
}

// goesOn checks that what was opened can be used: it is kept but for one block that is changed.
func goesOn(t *testing.T, d *block.Disk, was string) {
	t.Helper()
	l := open(t, d)
	put(t, l, 0, "G")
	sync(t, l)
	if again(t, d); whole(t, d) != string(of('G'))+was[api.Block:] {
		t.Fatal("P404: a log that was opened behind a cut does not go on")
	}
}

// syncs is a scene of a Sync behind one that was OK, of two transactions over three blocks, each a block of fill's.
func syncs(t *testing.T, fill func(n, turn int) []byte) scene {
	d, l := made(t, 4)
	turn := 0
	write := func(ns ...int) {
		x := begin(t, l)
		for _, n := range ns {
			x.Write(n, fill(n, turn))
		}
		x.Commit()
	}
	write(0, 1)
	write(2)
	sync(t, l)
	turn, ahead := 1, all(l)
	write(0, 3)
	write(3, 1)
	return scene{d, l.Sync, ahead, all(l)}
}

func TestPowerInSync(t *testing.T) {
	ahead, behind, none := everywhere(t, 3, func() scene {
		return syncs(t, func(n, turn int) []byte { return of(byte('a' + 10*turn + n)) })
	})
	if ahead == 0 || behind == 0 || none != 0 {
		t.Errorf("P404: Sync left what was ahead %d times, what was behind %d times, nothing %d times", ahead, behind, none)
	}
}

// TestBytesLikeTheLogs: blocks that look like heads, and like the log's blocks of another moment, decide nothing.
func TestBytesLikeTheLogs(t *testing.T) {
	for i, like := range likes(t) {
		if i%2 == 1 {
			like = bytes.Clone(like)
			like[api.Block-1] ^= 1
		}
		everywhere(t, 2, func() scene {
			return syncs(t, func(n, turn int) []byte {
				if (n+turn+i)%2 == 0 {
					return of(byte('a' + turn))
				}
				return like
			})
		})
	}
}

// likes is heads of many kinds, as a disk has had them.
func likes(t *testing.T) [][]byte {
	d, l := made(t, 4)
	seen := map[string]bool{}
	var all [][]byte
	see := func() {
		for n := range own {
			b, _ := d.Read(n)
			if !seen[string(b)] {
				seen[string(b)] = true
				all = append(all, b)
			}
		}
	}
	see()
	for at := 1; at < 10; at++ {
		put(t, l, 0, "ab")
		put(t, l, 3, "c")
		d.Arm(at, alike(1)...)
		l.Sync()
		d.On()
		see()
		l = open(t, d)
		see()
	}
	if len(all) < 4 {
		t.Fatalf("%d kinds of blocks", len(all))
	}
	return append(all, layHead([]int{0, 1, 2, 3}), layHead([]int{3}), layHead([]int{1, 1, 1}))
}

// TestPowerInCommit: the Sync that a Commit does first is all or nothing, and what is committed is not in it.
func TestPowerInCommit(t *testing.T) {
	ahead, behind, none := everywhere(t, 2, func() scene {
		d, l := made(t, 65)
		put(t, l, 60, "aaaaa")
		sync(t, l)
		was := all(l)
		put(t, l, 62, "bb")
		put(t, l, 63, "c")
		behind := all(l)
		x := begin(t, l)
		write(t, x, 0, strings.Repeat("x", 63))
		return scene{d, x.Commit, was, behind}
	})
	if ahead == 0 || behind == 0 || none != 0 {
		t.Errorf("P404: Commit left what was ahead %d times, what was behind %d times, nothing %d times", ahead, behind, none)
	}
}

// formats is a scene of a Format over what set has left.
func formats(d *block.Disk, ahead string) scene {
	return scene{d, func() api.Errno { _, e := Format(d); return e }, ahead, strings.Repeat("\x00", (d.Blocks()-own)*api.Block)}
}

func TestPowerInFormat(t *testing.T) {
	for _, c := range []byte{0, '#'} {
		_, _, none := everywhere(t, 4, func() scene { return formats(raw(3, c), "form, too") })
		if none == 0 {
			t.Error("P401: a Format that was cut can be opened")
		}
	}
}

// TestPowerInFormatOverALog: one that was used, and whose last Sync was cut where its head names blocks.
func TestPowerInFormatOverALog(t *testing.T) {
	for at := 1; at < 12; at++ {
		ahead, _, none := everywhere(t, 4, func() scene {
			s := syncs(t, func(n, turn int) []byte { return of(byte('a' + 10*turn + n)) })
			s.disk.Arm(at, 1, 0, 1)
			s.call()
			s.disk.On()
			return formats(s.disk, whole(t, s.disk.Twin()))
		})
		if ahead == 0 || none == 0 {
			t.Errorf("P10: Format left what was ahead %d times, nothing %d times", ahead, none)
		}
	}
}

// TestPowerBetweenCalls: the power goes behind each call, with what waits as it is picked.
func TestPowerBetweenCalls(t *testing.T) {
	for _, picks := range kinds(3) {
		for calls := range 8 {
			d, l := made(t, 3)
			put(t, l, 0, "abc")
			sync(t, l)
			var x *Txn
			for i, call := range []func(){
				func() { x = begin(t, l) },
				func() { write(t, x, 0, "x") },
				func() { write(t, x, 1, "y") },
				func() { x.Commit() },
				func() { x = begin(t, l) },
				func() { write(t, x, 2, "z") },
				func() { x.Abort() },
			} {
				if i < calls {
					call()
				}
			}
			if got := state(again(t, d, picks...)); got != "abc" {
				t.Errorf("P404: %s behind %d calls", got, calls)
			}
		}
	}
}
