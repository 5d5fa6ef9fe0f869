package fs

import (
	"testing"

	"mailbag/api"
	"mailbag/dir"
	"mailbag/file"
	"mailbag/inode"
)

// sound holds the blocks against P1201 and chapters 6 to 9: each inode that is not
// free stands at one name, each data block that is taken is in one thing, and no other is.
func sound(t *testing.T, f *FS) {
	t.Helper()
	e := f.look(func(a *act) api.Errno {
		var users [api.MaxInodes]int
		taken := map[int]int{}
		for i := range api.MaxInodes {
			n, e := a.node(i)
			if e != api.OK {
				t.Errorf("P1201: inode %d: %v", i, e)
				return e
			}
			checkNode(t, a, i, n, &users, taken)
		}
		users[root]++
		for i := range api.MaxInodes {
			n, _ := a.node(i)
			if want := min(n.Kind, 1); users[i] != want {
				t.Errorf("P1201: inode %d of kind %d stands at %d names", i, n.Kind, users[i])
			}
		}
		for n := range a.data.N {
			at := a.data.First + n
			has, e := a.data.Has(a.txn, at)
			if has != (taken[at] == 1) || taken[at] > 1 || e != api.OK {
				t.Errorf("P1201: data block %d: taken %v, in %d things, %v", at, has, taken[at], e)
			}
			delete(taken, at)
		}
		if len(taken) > 0 {
			t.Errorf("P1201: blocks that are no data blocks are in things: %v", taken)
		}
		return api.OK
	})
	if e != api.OK {
		t.Errorf("P1201: %v", e)
	}
}

func checkNode(t *testing.T, a *act, i int, n inode.Node, users *[api.MaxInodes]int, taken map[int]int) {
	t.Helper()
	if n.Kind == inode.None && n != (inode.Node{}) {
		t.Errorf("P1201: free inode %d is %+v", i, n)
	}
	if (i == 0) != (i == root) || i == root && n.Kind != inode.Dir {
		t.Errorf("P1201: the first inode is not the root's")
	}
	used, e := file.Used(a.txn, n)
	if e != api.OK || len(used) != inode.All(n.Size) {
		t.Errorf("P1201: inode %d: %d blocks, %v", i, len(used), e)
	}
	for _, at := range used {
		taken[at]++
	}
	if n.Kind != inode.Dir {
		return
	}
	b, e := file.Read(a.txn, n, 0, n.Size)
	s, e2 := dir.Read(b)
	if e != api.OK || e2 != api.OK {
		t.Errorf("P1201: directory %d: %v, %v", i, e, e2)
	}
	for _, slot := range s {
		if slot.Name != "" {
			users[slot.Inode]++
		}
	}
}
