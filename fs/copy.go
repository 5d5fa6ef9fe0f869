package fs

import (
	"mailbag/api"
	"mailbag/inode"
	"mailbag/tree"
)

// Tree makes what there is anew, by acts on an empty tree. That is done twice: how
// many blocks the acts leave taken is known behind the first time, and so how many
// a tree must have for as many to be free.
func (f *FS) Tree() *tree.Tree {
	var top *thing
	var free int
	e := f.look(func(a *act) (e api.Errno) {
		if free, _, e = a.free(); e != api.OK {
			return e
		}
		top, e = a.gather(root, "", &[api.MaxInodes]bool{})
		return e
	})
	if e != api.OK {
		return nil
	}
	acts := planFor(top)
	left, _ := replay(acts, api.MaxBlocks).Free()
	return replay(acts, api.MaxBlocks-left+free)
}

// thing is a file or a directory, with all that stands in it.
type thing struct {
	name  string
	dir   bool
	data  []byte
	slots int
	kids  []*thing
}

// gather goes to no inode twice, whatever the disk has in it.
func (a *act) gather(i int, name string, seen *[api.MaxInodes]bool) (*thing, api.Errno) {
	n, e := a.node(i)
	switch {
	case e != api.OK:
		return nil, e
	case seen[i]:
		return nil, api.ErrForm
	}
	seen[i] = true
	if n.Kind != inode.Dir {
		b, e := a.bytes(i)
		return &thing{name: name, data: b}, e
	}
	s, e := a.slots(i)
	if e != api.OK {
		return nil, e
	}
	x := &thing{name: name, dir: true, slots: len(s)}
	for _, name := range s.Names() {
		i, _ := s.Find(name)
		kid, e := a.gather(i, name, seen)
		if e != api.OK {
			return nil, e
		}
		x.kids = append(x.kids, kid)
	}
	return x, api.OK
}
