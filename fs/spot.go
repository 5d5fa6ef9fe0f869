package fs

import (
	"mailbag/api"
	"mailbag/inode"
	"mailbag/path"
)

// spot is where a path ends: whether something is there, or might be.
type spot struct {
	up    int    // the directory that it stands in
	name  string // the root's is empty, and its up is nothing
	inode int    // of what is there
	there bool
}

func (a *act) find(s string) (spot, api.Errno) {
	names, e := path.Split(s)
	if e != api.OK {
		return spot{}, e
	}
	return a.follow(names)
}

func (a *act) follow(names []string) (spot, api.Errno) {
	at := spot{inode: root, there: true}
	for _, name := range names {
		if !at.there {
			return spot{}, api.ErrNone
		}
		s, e := a.slots(at.inode)
		if e != api.OK {
			return spot{}, e
		}
		i, there := s.Find(name)
		at = spot{up: at.inode, name: name, inode: i, there: there}
	}
	return at, api.OK
}

// thing is find, where something must be there.
func (a *act) thing(s string) (spot, api.Errno) {
	at, e := a.find(s)
	switch {
	case e != api.OK:
		return spot{}, e
	case !at.there:
		return spot{}, api.ErrNone
	}
	return at, api.OK
}

// file is thing, where that must be no directory.
func (a *act) file(s string) (spot, api.Errno) {
	at, e := a.thing(s)
	if e != api.OK {
		return spot{}, e
	}
	n, e := a.node(at.inode)
	switch {
	case e != api.OK:
		return spot{}, e
	case n.Kind == inode.Dir:
		return spot{}, api.ErrDir
	}
	return at, api.OK
}
