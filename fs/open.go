package fs

import (
	"slices"

	"mailbag/api"
	"mailbag/file"
)

// Open keeps the file's inode alone, so that it may be renamed.
func (f *FS) Open(path string) (int, api.Errno) {
	var at spot
	e := f.look(func(a *act) (e api.Errno) {
		at, e = a.file(path)
		return e
	})
	if e != api.OK {
		return 0, e
	}
	fd := slices.Index(f.open[:], none)
	if fd < 0 {
		return 0, api.ErrFull
	}
	f.open[fd] = at.inode
	return fd, api.OK
}

func (f *FS) Read(fd, off, n int) ([]byte, api.Errno) {
	i, e := f.file(fd)
	if e != api.OK {
		return nil, e
	}
	var b []byte
	e = f.look(func(a *act) api.Errno {
		node, e := a.node(i)
		if e != api.OK {
			return e
		}
		b, e = file.Read(a.txn, node, off, n)
		return e
	})
	return b, e
}

func (f *FS) Append(fd int, b []byte) api.Errno {
	i, e := f.file(fd)
	if e != api.OK {
		return e
	}
	return f.change(func(a *act) api.Errno { return a.grow(i, b) })
}

// Fsync is Sync: the log lets all that was committed last as one.
func (f *FS) Fsync(fd int) api.Errno {
	if _, e := f.file(fd); e != api.OK {
		return e
	}
	return f.Sync()
}

// Close needs no power.
func (f *FS) Close(fd int) api.Errno {
	if !f.isOpen(fd) {
		return api.ErrBad
	}
	f.open[fd] = none
	return api.OK
}

// file is the inode that is open by that number.
func (f *FS) file(fd int) (int, api.Errno) {
	switch {
	case f.Down():
		return 0, api.ErrDown
	case !f.isOpen(fd):
		return 0, api.ErrBad
	}
	return f.open[fd], api.OK
}

func (f *FS) isOpen(fd int) bool {
	return fd >= 0 && fd < len(f.open) && f.open[fd] != none
}
