package fs

import (
	"bytes"
	"testing"

	"mailbag/api"
	"mailbag/tree"
)

// isDown asks all calls of a file system without power.
func isDown(t *testing.T, f *FS, open int) {
	t.Helper()
	if !f.Down() {
		t.Error("P1202: Down: false without power")
	}
	for kind := -1; kind < 10; kind++ {
		for _, s := range []string{"/", "/k", "/x", "/x/y", "x", many(300, "x")} {
			if e := f.Do(tree.Op{Kind: kind, Path: s, To: "/k", Data: make([]byte, 9000), N: -1}); e != api.ErrDown {
				t.Errorf("P1202: act %d of %.20q without power: %v", kind, s, e)
			}
		}
	}
	for _, s := range []string{"/", "/k", "/x", "/k/x", "x", many(300, "x")} {
		if info, e := f.Stat(s); info != (tree.Info{}) || e != api.ErrDown {
			t.Errorf("P1202: Stat without power: %+v, %v", info, e)
		}
		if b, e := f.Get(s); b != nil || e != api.ErrDown {
			t.Errorf("P1202: Get without power: %q, %v", b, e)
		}
		if l, e := f.List(s); l != nil || e != api.ErrDown {
			t.Errorf("P1202: List without power: %q, %v", l, e)
		}
		if fd, e := f.Open(s); fd != 0 || e != api.ErrDown {
			t.Errorf("P1203: Open without power: %d, %v", fd, e)
		}
	}
	if b, i := f.Free(); b != 0 || i != 0 {
		t.Errorf("P1202: Free without power: %d, %d", b, i)
	}
	if x := f.Tree(); x != nil {
		t.Error("P1202: Tree without power")
	}
	for fd := -1; fd <= api.MaxOpen; fd++ {
		for _, off := range []int{0, -1} {
			if b, e := f.Read(fd, off, 1); b != nil || e != api.ErrDown {
				t.Errorf("P1203: Read without power: %q, %v", b, e)
			}
		}
		for _, n := range []int{0, 1, 9000} {
			if e := f.Append(fd, make([]byte, n)); e != api.ErrDown {
				t.Errorf("P1203: Append without power: %v", e)
			}
		}
		if e := f.Fsync(fd); e != api.ErrDown {
			t.Errorf("P1203: Fsync without power: %v", e)
		}
	}
	if e := f.Sync(); e != api.ErrDown {
		t.Errorf("P1203: Sync without power: %v", e)
	}
	for fd := -1; fd <= api.MaxOpen; fd++ {
		want := api.ErrBad
		if fd >= 0 && fd < open {
			want = api.OK
		}
		for range 2 {
			if e := f.Close(fd); e != want {
				t.Errorf("P1203: Close of %d without power: %v; want %v", fd, e, want)
			}
			want = api.ErrBad
		}
	}
}

func TestDown(t *testing.T) {
	g := newGround(t, 60, some...)
	if g.fs.Down() {
		t.Error("P1202: Down: true with power")
	}
	g.opens("/k")
	g.opens("/a/f")
	g.sync()
	g.ok(create("/n"))
	g.disk.Cut(1)
	was := g.disk.Image()
	isDown(t, g.fs, 2)
	if !bytes.Equal(g.disk.Image(), was) || !g.disk.Off() {
		t.Error("P1202: calls without power wrote, or brought the power back")
	}
}

// TestDownFromWithin: behind a Sync, an act, or a Fsync in which the power went.
func TestDownFromWithin(t *testing.T) {
	t.Parallel()
	calls := map[string]func(g *ground) api.Errno{
		"Sync":  func(g *ground) api.Errno { return g.fs.Sync() },
		"Fsync": func(g *ground) api.Errno { return g.fs.Fsync(0) },
		"Do": func(g *ground) api.Errno {
			for range 100 {
				if e := g.fs.Do(grow("/k", 8192)); e != api.OK {
					return e
				}
			}
			return api.OK
		},
		"Append": func(g *ground) api.Errno {
			for range 100 {
				if e := g.fs.Append(0, make([]byte, 8192)); e != api.OK {
					return e
				}
			}
			return api.OK
		},
	}
	for name, call := range calls {
		for at := 1; at < 20; at += 3 {
			g := newGround(t, 2000, some...)
			g.opens("/k")
			g.disk.Arm(at, 1, 0, 1)
			if e := call(g); e != api.ErrDown {
				t.Errorf("P1204: %s in which the power goes: %v", name, e)
			}
			isDown(t, g.fs, 1)
		}
	}
}

// TestNoFS: P1: an FS that Mkfs, Mount did not make has no power, and no call on it panics.
func TestNoFS(t *testing.T) {
	isDown(t, &FS{}, 0)
}
