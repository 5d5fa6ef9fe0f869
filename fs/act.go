package fs

import (
	"bytes"
	"slices"

	"mailbag/alloc"
	"mailbag/api"
	"mailbag/dir"
	"mailbag/file"
	"mailbag/inode"
	"mailbag/tree"
	"mailbag/wal"
)

const slotSize = api.Block / api.Slots

// act is a call of a file system, while it goes on.
type act struct {
	fs   *FS
	txn  *wal.Txn
	data alloc.Pool
}

// place is where inode i stands: in which block, and from which byte on.
func place(i int) (at, from int) {
	return nodesAt + i/perBlock, i % perBlock * nodeSize
}

func (a *act) node(i int) (inode.Node, api.Errno) {
	if i >= api.MaxInodes { // slots may name more than there are
		return inode.Node{}, api.ErrForm
	}
	at, from := place(i)
	b, e := a.txn.Read(at)
	if e != api.OK {
		return inode.Node{}, e
	}
	return inode.Decode(b[from : from+nodeSize])
}

func (a *act) setNode(i int, n inode.Node) api.Errno {
	at, from := place(i)
	b, e := a.txn.Read(at)
	if e != api.OK {
		return e
	}
	copy(b[from:], inode.Encode(n))
	return a.txn.Write(at, b)
}

// unused are the inodes that are free, rising.
func (a *act) unused() ([]int, api.Errno) {
	var free []int
	blank := inode.Encode(inode.Node{})
	for i := 0; i < api.MaxInodes; i += perBlock {
		at, _ := place(i)
		b, e := a.txn.Read(at)
		if e != api.OK {
			return nil, e
		}
		for k := range perBlock {
			if bytes.Equal(b[k*nodeSize:(k+1)*nodeSize], blank) {
				free = append(free, i+k)
			}
		}
	}
	return free, api.OK
}

// take is the least inode that is free, for a new thing.
func (a *act) take(kind int) (int, api.Errno) {
	free, e := a.unused()
	switch {
	case e != api.OK:
		return 0, e
	case len(free) == 0:
		return 0, api.ErrFull
	}
	return free[0], a.setNode(free[0], fresh(kind))
}

// release gives back an inode, and the blocks of what it was.
func (a *act) release(i int) api.Errno {
	if e := a.cut(i, 0); e != api.OK {
		return e
	}
	return a.setNode(i, inode.Node{})
}

func (a *act) cut(i, size int) api.Errno {
	n, e := a.node(i)
	if e != api.OK {
		return e
	}
	n, e = file.Cut(a.txn, a.data, n, size)
	if e != api.OK {
		return e
	}
	return a.setNode(i, n)
}

func (a *act) bytes(i int) ([]byte, api.Errno) {
	n, e := a.node(i)
	if e != api.OK {
		return nil, e
	}
	return file.Read(a.txn, n, 0, n.Size)
}

// slots are those of directory i, as many as its blocks have.
func (a *act) slots(i int) (dir.Slots, api.Errno) {
	n, e := a.node(i)
	if e != api.OK {
		return nil, e
	}
	if n.Kind != inode.Dir {
		return nil, api.ErrFile
	}
	b, e := file.Read(a.txn, n, 0, n.Size)
	if e != api.OK {
		return nil, e
	}
	return dir.Read(b)
}

// edit writes only the slots of directory i that become others: to write all of two
// great directories a transaction has no room.
func (a *act) edit(i int, change func(s dir.Slots) (dir.Slots, api.Errno)) api.Errno {
	old, e := a.slots(i)
	if e != api.OK {
		return e
	}
	s, e := change(old)
	if e != api.OK {
		return e
	}
	if len(s) > len(old) {
		if e := a.extend(i, make([]byte, api.Block)); e != api.OK {
			return e
		}
	}
	n, e := a.node(i)
	if e != api.OK {
		return e
	}
	for k, slot := range s {
		if k < len(old) && slot == old[k] {
			continue
		}
		if e := file.Put(a.txn, n, k*slotSize, dir.Slots{slot}.Bytes()[:slotSize]); e != api.OK {
			return e
		}
	}
	return api.OK
}

// extend lays bytes behind those of thing i.
func (a *act) extend(i int, b []byte) api.Errno {
	n, e := a.node(i)
	if e != api.OK {
		return e
	}
	n, e = file.Append(a.txn, a.data, n, b)
	if e != api.OK {
		return e
	}
	return a.setNode(i, n)
}

func (a *act) info(i int) (tree.Info, api.Errno) {
	n, e := a.node(i)
	if e != api.OK {
		return tree.Info{}, e
	}
	if n.Kind != inode.Dir {
		return tree.Info{Size: n.Size}, api.OK
	}
	s, e := a.slots(i)
	if e != api.OK {
		return tree.Info{}, e
	}
	return tree.Info{Dir: true, Kids: len(s.Names())}, api.OK
}

func (a *act) free() (blocks, inodes int, e api.Errno) {
	unused, e := a.unused()
	if e != api.OK {
		return 0, 0, e
	}
	blocks, e = a.data.Free(a.txn)
	if e != api.OK {
		return 0, 0, e
	}
	return blocks, len(unused), api.OK
}

func (a *act) isOpen(i int) bool { return slices.Contains(a.fs.open[:], i) }
