package fs

import (
	"slices"

	"mailbag/api"
	"mailbag/dir"
	"mailbag/inode"
	"mailbag/path"
	"mailbag/tree"
)

const mostAppend = 16 * api.Block // bytes of one Append: a transaction has room for these

// do leaves Rename to itself: both of its paths are split ahead of the way of one.
func (a *act) do(o tree.Op) api.Errno {
	switch o.Kind {
	case tree.Create:
		return a.add(o.Path, inode.File)
	case tree.Mkdir:
		return a.add(o.Path, inode.Dir)
	case tree.Append:
		return a.appendTo(o.Path, o.Data)
	case tree.Cut:
		return a.cutTo(o.Path, o.N)
	case tree.Unlink:
		return a.unlink(o.Path)
	case tree.Rmdir:
		return a.rmdir(o.Path)
	case tree.Rename:
		return a.rename(o.Path, o.To)
	}
	return api.ErrArg
}

func (a *act) add(s string, kind int) api.Errno {
	at, e := a.find(s)
	switch {
	case e != api.OK:
		return e
	case at.there:
		return api.ErrExists
	}
	i, e := a.take(kind)
	if e != api.OK {
		return e
	}
	return a.edit(at.up, putting(at.name, i))
}

func (a *act) appendTo(s string, b []byte) api.Errno {
	at, e := a.file(s)
	if e != api.OK {
		return e
	}
	return a.grow(at.inode, b)
}

// grow is Append of a file, by its path or by its number.
func (a *act) grow(i int, b []byte) api.Errno {
	if len(b) > mostAppend {
		return a.tooMuch(i, len(b))
	}
	return a.extend(i, b)
}

// tooMuch is why so many bytes can't be had at once. Tree's errors are ahead of it;
// its ErrLong is the same one.
func (a *act) tooMuch(i, more int) api.Errno {
	n, e := a.node(i)
	if e != api.OK {
		return e
	}
	free, e := a.data.Free(a.txn)
	size := n.Size + more
	switch {
	case e != api.OK:
		return e
	case size <= inode.Most() && inode.All(size)-inode.All(n.Size) > free:
		return api.ErrFull
	}
	return api.ErrLong
}

func (a *act) cutTo(s string, size int) api.Errno {
	at, e := a.file(s)
	if e != api.OK {
		return e
	}
	return a.cut(at.inode, size)
}

func (a *act) unlink(s string) api.Errno {
	at, e := a.file(s)
	switch {
	case e != api.OK:
		return e
	case a.isOpen(at.inode):
		return api.ErrBusy
	}
	return a.remove(at)
}

func (a *act) rmdir(s string) api.Errno {
	at, e := a.thing(s)
	if e != api.OK {
		return e
	}
	slots, e := a.slots(at.inode)
	switch {
	case e != api.OK:
		return e
	case at.name == "" || len(slots.Names()) > 0:
		return api.ErrBusy
	}
	return a.remove(at)
}

func (a *act) remove(at spot) api.Errno {
	if e := a.release(at.inode); e != api.OK {
		return e
	}
	return a.edit(at.up, taking(at.name))
}

func (a *act) rename(source, target string) api.Errno {
	names, e := path.Split(source)
	if e != api.OK {
		return e
	}
	others, e := path.Split(target)
	if e != api.OK {
		return e
	}
	from, e := a.follow(names)
	switch {
	case e != api.OK:
		return e
	case !from.there:
		return api.ErrNone
	case len(names) == 0 || len(others) == 0:
		return api.ErrBusy
	}
	to, e := a.follow(others)
	switch {
	case e != api.OK:
		return e
	case to.there && to.inode == from.inode: // each thing stands at one path alone
		return api.OK
	case path.Under(source, target):
		return api.ErrBusy
	case to.there:
		return a.replace(from, to)
	}
	return a.move(from, to)
}

// replace gives To's slot Path's thing, and lets what was there go.
func (a *act) replace(from, to spot) api.Errno {
	if e := a.mayReplace(from.inode, to.inode); e != api.OK {
		return e
	}
	if e := a.release(to.inode); e != api.OK {
		return e
	}
	if e := a.edit(to.up, pointing(to.name, from.inode)); e != api.OK {
		return e
	}
	return a.edit(from.up, taking(from.name))
}

func (a *act) mayReplace(from, to int) api.Errno {
	old, e := a.info(to)
	if e != api.OK {
		return e
	}
	n, e := a.node(from)
	switch {
	case e != api.OK:
		return e
	case old.Dir && n.Kind != inode.Dir:
		return api.ErrDir
	case !old.Dir && n.Kind == inode.Dir:
		return api.ErrFile
	case old.Kids > 0 || a.isOpen(to):
		return api.ErrBusy
	}
	return api.OK
}

// move never makes a directory grow that has the thing already.
func (a *act) move(from, to spot) api.Errno {
	if from.up == to.up {
		return a.edit(from.up, func(s dir.Slots) (dir.Slots, api.Errno) { return s.Move(from.name, to.name) })
	}
	if e := a.edit(from.up, taking(from.name)); e != api.OK {
		return e
	}
	return a.edit(to.up, putting(to.name, from.inode))
}

func putting(name string, i int) func(dir.Slots) (dir.Slots, api.Errno) {
	return func(s dir.Slots) (dir.Slots, api.Errno) {
		other, _, e := s.Put(name, i)
		return other, e
	}
}

func taking(name string) func(dir.Slots) (dir.Slots, api.Errno) {
	return func(s dir.Slots) (dir.Slots, api.Errno) {
		other, _, e := s.Take(name)
		return other, e
	}
}

// pointing leaves the slot in its place, with another inode.
func pointing(name string, i int) func(dir.Slots) (dir.Slots, api.Errno) {
	return func(s dir.Slots) (dir.Slots, api.Errno) {
		other := slices.Clone(s)
		for k := range other {
			if other[k].Name == name {
				other[k].Inode = i
			}
		}
		return other, api.OK
	}
}
