package alloc

import (
	"testing"

	"mailbag/api"
	"mailbag/block"
	"mailbag/wal"
)

func commit(t *testing.T, x *wal.Txn) {
	t.Helper()
	if e := x.Commit(); e != api.OK {
		t.Fatalf("Commit: %v", e)
	}
}

// again is the log of a disk whose power went and came.
func again(t *testing.T, d *block.Disk, picks ...int) *wal.Log {
	t.Helper()
	d.Cut(picks...)
	d.On()
	l, e := wal.Open(d)
	if e != api.OK {
		t.Fatalf("Open: %v", e)
	}
	return l
}

func TestAborted(t *testing.T) {
	p := Pool{Map: 1, First: 7, N: 4100}
	_, l := made(t, 5)
	x := begin(t, l)
	takeMany(t, p, x, 7, 4099)
	x.Abort()
	x = begin(t, l)
	free(t, p, x, 4100, api.OK)
	takeMany(t, p, x, 7, 3)
	commit(t, x)
	x = begin(t, l)
	gives(t, p, x, 8, api.OK)
	clears(t, p, x, api.OK)
	x.Abort()
	x = begin(t, l)
	free(t, p, x, 4097, api.OK)
	has(t, p, x, 8, true, api.OK)
	takes(t, p, x, 10, api.OK)
}

// TestCommitted: what a transaction took is taken for others behind its Commit alone.
func TestCommitted(t *testing.T) {
	p := Pool{Map: 0, First: 0, N: 20}
	_, l := made(t, 5)
	x := begin(t, l)
	takeMany(t, p, x, 0, 3)
	if b, _ := l.Read(0); b[0] != 0 {
		t.Error("P601: Take wrote beside its transaction")
	}
	commit(t, x)
	y := begin(t, l)
	has(t, p, y, 2, true, api.OK)
	takes(t, p, y, 3, api.OK)
	has(t, p, x, 3, false, api.OK) // at its end it reads what was committed
	commit(t, y)
	has(t, p, x, 3, true, api.OK)
}

func TestSynced(t *testing.T) {
	p := Pool{Map: 1, First: 7, N: 4100}
	d, l := made(t, 5)
	x := begin(t, l)
	takeMany(t, p, x, 7, 4098)
	gives(t, p, x, 9, api.OK)
	commit(t, x)
	if e := l.Sync(); e != api.OK {
		t.Fatalf("Sync: %v", e)
	}
	x = begin(t, l)
	takes(t, p, x, 9, api.OK)
	commit(t, x)
	x = begin(t, l)
	clears(t, p, x, api.OK)
	l = again(t, d, 1, 1, 1)
	x = begin(t, l)
	free(t, p, x, 3, api.OK)
	for _, n := range []int{7, 8, 10, 7 + 4095, 7 + 4096, 7 + 4097} {
		has(t, p, x, n, true, api.OK)
	}
	for _, n := range []int{9, 7 + 4098, 7 + 4099} {
		has(t, p, x, n, false, api.OK)
	}
	takes(t, p, x, 9, api.OK)
	takes(t, p, x, 7+4098, api.OK)
}

// TestPowerAtEachWrite: a Sync that is cut leaves all that was taken, or none of it.
func TestPowerAtEachWrite(t *testing.T) {
	p := Pool{Map: 0, First: 0, N: 8192}
	for at := 1; ; at++ {
		d, l := made(t, 2)
		x := begin(t, l)
		write(t, x, 0, of(0xFF))
		gives(t, p, x, 4095, api.OK)
		takes(t, p, x, 4095, api.OK)
		takeMany(t, p, x, 4096, 4)
		commit(t, x)
		d.Arm(at, 1, 0, 1, 0)
		if l.Sync() == api.OK {
			if at < 3 {
				t.Fatal("the power did not go")
			}
			return
		}
		x = begin(t, again(t, d))
		if n, e := p.Free(x); e != api.OK || n != 8192 && n != 8192-4100 {
			t.Errorf("T6: %d are free behind a Sync that was cut, %v", n, e)
		}
	}
}
