package tree

import (
	"bytes"
	"iter"
	"maps"
	"slices"

	"mailbag/dir"
	"mailbag/inode"
)

// node is a file or a directory. One that is all zero is an empty directory.
type node struct {
	file  bool
	data  []byte
	kids  map[string]*node
	slots int // of a directory: as many as it ever had names at once
}

func newFile() *node { return &node{file: true} }

func newDir() *node { return &node{kids: map[string]*node{}} }

func (n *node) info() Info {
	return Info{Dir: !n.file, Size: len(n.data), Kids: len(n.kids)}
}

func (n *node) names() []string { return slices.Sorted(maps.Keys(n.kids)) }

// blocks is how many n has taken.
func (n *node) blocks() int {
	if n.file {
		return inode.All(len(n.data))
	}
	return slotBlocks(n.slots)
}

// slotBlocks asks dir for its bytes: how slots fill blocks is its rule alone.
func slotBlocks(slots int) int {
	return inode.All(len(make(dir.Slots, slots).Bytes()))
}

// further is how many blocks a directory needs for a further name.
func (n *node) further() int {
	if len(n.kids) < n.slots {
		return 0
	}
	return slotBlocks(n.slots+1) - slotBlocks(n.slots)
}

// take gives the name a slot that is free, or a new one. Which of them it is no
// call can tell, so they are counted alone.
func (n *node) take(name string, kid *node) {
	n.kids[name] = kid
	n.slots = max(n.slots, len(n.kids))
}

func (n *node) twin() *node {
	other := &node{file: n.file, data: bytes.Clone(n.data), slots: n.slots}
	if !n.file {
		other.kids = make(map[string]*node, len(n.kids))
	}
	for name, kid := range n.kids {
		other.kids[name] = kid.twin()
	}
	return other
}

func same(a, b *node) bool {
	return a.file == b.file && bytes.Equal(a.data, b.data) && maps.EqualFunc(a.kids, b.kids, same)
}

// below is all that stands below n, by its path; at is n's own, the root's the empty
// text. Paths are no path.Join's: a Rename may have brought things deeper than one
// may ask for.
func (n *node) below(at string) iter.Seq2[string, *node] {
	return func(yield func(string, *node) bool) {
		for _, name := range n.names() {
			kid := n.kids[name]
			path := at + "/" + name
			if !yield(path, kid) {
				return
			}
			for path, other := range kid.below(path) {
				if !yield(path, other) {
					return
				}
			}
		}
	}
}
