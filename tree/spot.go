package tree

import (
	"mailbag/api"
	"mailbag/path"
)

// spot is where a path ends: whether something is there, or might be.
type spot struct {
	up   *node // what it stands in; nil: it is the root
	name string
	node *node // nil: nothing is there
}

func (t *Tree) find(s string) (spot, api.Errno) {
	names, e := path.Split(s)
	if e != api.OK {
		return spot{}, e
	}
	return t.follow(names)
}

func (t *Tree) follow(names []string) (spot, api.Errno) {
	at := spot{node: &t.root}
	for _, name := range names {
		switch {
		case at.node == nil:
			return spot{}, api.ErrNone
		case at.node.file:
			return spot{}, api.ErrFile
		}
		at = spot{up: at.node, name: name, node: at.node.kids[name]}
	}
	return at, api.OK
}

// there is what stands at the path.
func (t *Tree) there(s string) (*node, api.Errno) {
	at, e := t.find(s)
	switch {
	case e != api.OK:
		return nil, e
	case at.node == nil:
		return nil, api.ErrNone
	}
	return at.node, api.OK
}

func (t *Tree) rename(source, target string) api.Errno {
	names, e := path.Split(source)
	if e != api.OK {
		return e
	}
	others, e := path.Split(target)
	if e != api.OK {
		return e
	}
	from, e := t.follow(names)
	switch {
	case e != api.OK:
		return e
	case from.node == nil:
		return api.ErrNone
	case len(names) == 0 || len(others) == 0:
		return api.ErrBusy
	}
	to, e := t.follow(others)
	switch {
	case e != api.OK:
		return e
	case to.node == from.node: // each thing stands at one path alone
		return api.OK
	case path.Under(source, target):
		return api.ErrBusy
	case to.node != nil:
		return t.replace(from, to)
	}
	return t.move(from, to)
}

// replace lets what is there go first: its slot is free for the other then.
func (t *Tree) replace(from, to spot) api.Errno {
	switch {
	case from.node.file && !to.node.file:
		return api.ErrDir
	case !from.node.file && to.node.file:
		return api.ErrFile
	case len(to.node.kids) > 0:
		return api.ErrBusy
	}
	t.remove(to)
	return t.move(from, to)
}

// move is never refused within one directory: the slot that the old name leaves is
// the new one's.
func (t *Tree) move(from, to spot) api.Errno {
	if from.up != to.up && to.up.further() > t.blocks {
		return api.ErrFull
	}
	delete(from.up.kids, from.name)
	t.put(to, from.node)
	return api.OK
}
