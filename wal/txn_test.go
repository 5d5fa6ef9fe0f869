package wal

import (
	"math"
	"strings"
	"testing"

	"mailbag/api"
)

func TestOneAtATime(t *testing.T) {
	_, l := made(t, 3)
	for i, end := range []func(*Txn){func(x *Txn) { x.Commit() }, (*Txn).Abort} {
		x := begin(t, l)
		write(t, x, 0, "ab")
		if y, e := l.Begin(); y != nil || e != api.ErrOrder {
			t.Fatalf("P402: Begin while another one is open: %v, %v", y, e)
		}
		if x.Writes() != 2 || read(x, 3) != "ab." || l.Pending() != i {
			t.Error("P5: a Begin that was refused changed the one that is open")
		}
		end(x)
	}
	begin(t, l).Abort()
}

func TestReadInAndOut(t *testing.T) {
	_, l := made(t, 4)
	put(t, l, 0, "ab")
	x := begin(t, l)
	write(t, x, 1, "BC")
	if read(x, 4) != "aBC." || state(l) != "ab.." {
		t.Errorf("P402: %s in the transaction, %s out of it", read(x, 4), state(l))
	}
	write(t, x, 2, "c")
	write(t, x, 2, "d")
	if read(x, 4) != "aBd." || x.Writes() != 2 {
		t.Errorf("P402: %s, %d blocks written", read(x, 4), x.Writes())
	}
	if e := x.Commit(); e != api.OK || state(l) != "aBd." {
		t.Errorf("P402: Commit: %v: %s", e, state(l))
	}
}

func TestWhichBlocks(t *testing.T) {
	_, l := made(t, 4)
	x := begin(t, l)
	for _, n := range []int{math.MinInt, -own, -1, 4, 5, 4 + own, math.MaxInt} {
		if b, e := l.Read(n); b != nil || e != api.ErrArg {
			t.Errorf("P402: Log.Read(%d): %d bytes, %v", n, len(b), e)
		}
		if b, e := x.Read(n); b != nil || e != api.ErrArg {
			t.Errorf("P402: Txn.Read(%d): %d bytes, %v", n, len(b), e)
		}
		if e := x.Write(n, of('x')); e != api.ErrArg {
			t.Errorf("P402: Write(%d): %v", n, e)
		}
	}
	if x.Writes() != 0 || read(x, 4) != "...." {
		t.Error("P5: a Write that was refused changed something")
	}
	write(t, x, 0, "a")
	write(t, x, 3, "d")
	if read(x, 4) != "a..d" || x.Writes() != 2 {
		t.Errorf("P402: %s, %d blocks written", read(x, 4), x.Writes())
	}
}

func TestWriteTakesABlock(t *testing.T) {
	_, l := made(t, 2)
	x := begin(t, l)
	write(t, x, 0, "a")
	long := append(of('x'), 'x')
	for _, b := range [][]byte{nil, {}, {'x'}, long[:api.Block-1], long} {
		for n := range 2 {
			if e := x.Write(n, b); e != api.ErrArg {
				t.Errorf("P402: Write of %d bytes: %v", len(b), e)
			}
		}
	}
	if x.Writes() != 1 || read(x, 2) != "a." {
		t.Errorf("P5: %s behind Writes that were refused", read(x, 2))
	}
}

func TestFull(t *testing.T) {
	_, l := made(t, 70)
	x := begin(t, l)
	all := strings.Repeat("a", 63)
	write(t, x, 0, all)
	for _, n := range []int{63, 64, 69} {
		if e := x.Write(n, of('x')); e != api.ErrFull {
			t.Errorf("P402: Write of a 64th block: %v", e)
		}
	}
	if x.Writes() != 63 || read(x, 70) != all+"......." {
		t.Errorf("P402: ErrFull changed the transaction: %s", read(x, 70))
	}
	if y, e := l.Begin(); y != nil || e != api.ErrOrder {
		t.Error("P402: ErrFull ended the transaction")
	}
	write(t, x, 0, "b")
	write(t, x, 62, "z")
	want := "b" + all[:61] + "z......."
	if x.Writes() != 63 || read(x, 70) != want {
		t.Errorf("P402: blocks that a full transaction has: %s", read(x, 70))
	}
	if e := x.Commit(); e != api.OK || state(l) != want || l.Pending() != 1 {
		t.Errorf("P402: Commit of a full transaction: %v: %s", e, state(l))
	}
	if y := begin(t, l); y.Write(63, of('y')) != api.OK || y.Writes() != 1 {
		t.Error("P402: room is a transaction's own")
	}
}

func TestAtItsEnd(t *testing.T) {
	for _, commits := range []bool{true, false} {
		_, l := made(t, 3)
		put(t, l, 0, "abc")
		x := begin(t, l)
		write(t, x, 0, "AB")
		want, writes := "abc", 0
		if commits {
			want, writes = "ABc", 2
			x.Commit()
		} else {
			x.Abort()
		}
		pending := l.Pending()
		for range 2 {
			if x.Commit() != api.ErrOrder || x.Write(1, of('q')) != api.ErrOrder || x.Writes() != writes || l.Pending() != pending {
				t.Error("P402: a transaction at its end goes on")
			}
			if x.Write(3, of('q')) != api.ErrArg || x.Write(-1, nil) != api.ErrArg || x.Write(0, nil) != api.ErrArg {
				t.Error("P6: Write at its end: arg is ahead of order")
			}
			if read(x, 3) != want || state(l) != want {
				t.Errorf("P402: %s read at its end, %s by the log; want %s", read(x, 3), state(l), want)
			}
			if b, e := x.Read(3); b != nil || e != api.ErrArg {
				t.Errorf("P402: Read(3) at its end: %v", e)
			}
		}
		y := begin(t, l)
		write(t, y, 2, "Z")
		if read(x, 3) != want || x.Write(2, of('q')) != api.ErrOrder || x.Commit() != api.ErrOrder {
			t.Error("P402: a transaction at its end, while another one is open")
		}
		if x.Abort(); y.Writes() != 1 || read(y, 3) != want[:2]+"Z" || y.Commit() != api.OK {
			t.Error("P402: Abort at its end reached another transaction")
		}
		if read(x, 3) != want[:2]+"Z" || state(l) != want[:2]+"Z" || x.Writes() != writes {
			t.Errorf("P402: %s read at its end, %s by the log", read(x, 3), state(l))
		}
	}
}

func TestAbort(t *testing.T) {
	d, l := made(t, 3)
	put(t, l, 0, "ab")
	x := begin(t, l)
	write(t, x, 0, "ABC")
	x.Abort()
	x.Abort()
	if state(l) != "ab." || l.Pending() != 1 || x.Writes() != 0 {
		t.Errorf("P402: %s behind Abort", state(l))
	}
	sync(t, l)
	begin(t, l).Abort()
	if got := state(again(t, d)); got != "ab." {
		t.Errorf("P402: %s lasted behind Abort", got)
	}
}

// TestNoWrites: of what comes ahead of a Sync nothing reaches the disk.
func TestNoWrites(t *testing.T) {
	d, l := made(t, 70)
	put(t, l, 0, "abc")
	sync(t, l)
	was := told(d)
	put(t, l, 0, "ABCD")
	x := begin(t, l)
	write(t, x, 3, strings.Repeat("x", 62))
	x.Write(69, nil)
	read(x, 70)
	state(l)
	_, _, _, _ = x.Writes(), l.Room(), l.Blocks(), l.Pending()
	x.Abort()
	l.Begin()
	if told(d) != was {
		t.Error("P404: a call that may not has written to the disk")
	}
}

// TestErrorsWithoutPower: which error comes first, with a transaction that is open and one that is at its end.
func TestErrorsWithoutPower(t *testing.T) {
	d, l := made(t, 3)
	ended := begin(t, l)
	write(t, ended, 0, "a")
	ended.Commit()
	x := begin(t, l)
	write(t, x, 1, "b")
	d.Cut()
	if y, e := l.Begin(); y != nil || e != api.ErrDown {
		t.Errorf("P6: Begin: %v", e)
	}
	for _, n := range []int{-1, 0, 1, 2, 3} {
		b, e := l.Read(n)
		if want := map[bool]api.Errno{true: api.ErrDown, false: api.ErrArg}[n >= 0 && n < 3]; b != nil || e != want {
			t.Errorf("P6: Log.Read(%d): %v; want %v", n, e, want)
		}
		for _, y := range []*Txn{x, ended} {
			if b, e := y.Read(n); b != nil || e != api.ErrDown {
				t.Errorf("P6: Txn.Read(%d): %v", n, e)
			}
			if y.Write(n, of('q')) != api.ErrDown || y.Write(n, nil) != api.ErrDown {
				t.Errorf("P6: Write(%d)", n)
			}
		}
	}
	if l.Sync() != api.ErrDown || l.Pending() != 1 || x.Writes() != 1 {
		t.Error("P403: Sync without power")
	}
	if ended.Commit() != api.ErrOrder || x.Commit() != api.ErrDown || x.Commit() != api.ErrOrder || l.Pending() != 1 {
		t.Error("P402: Commit without power")
	}
	if y, e := l.Begin(); y != nil || e != api.ErrDown {
		t.Errorf("P6: Begin: %v", e)
	}
	d.On()
	if got := state(open(t, d)); got != "..." {
		t.Errorf("P402: %s lasted, and was not synced", got)
	}
}

func TestAbortWithoutPower(t *testing.T) {
	d, l := made(t, 2)
	x := begin(t, l)
	write(t, x, 0, "a")
	d.Cut()
	x.Abort()
	if x.Commit() != api.ErrOrder || x.Writes() != 0 {
		t.Error("P402: Abort without power")
	}
}
