package file

import (
	"slices"

	"mailbag/api"
	"mailbag/inode"
)

const (
	numberSize = 4  // bytes of a number in a block of numbers
	inNode     = -1 // within of what stands in the node, which is there ahead of all blocks
)

// spot is where a number of a file stands, in its node or in a block of numbers.
// The blocks of bytes that are found by it begin with first, those that are found
// by what it stands in with within.
type spot struct {
	first, within int
	get           func() (int, api.Errno)
	set           func(at int) api.Errno
}

// field is a number in the node.
func field(at *int, first int) spot {
	return spot{
		first:  first,
		within: inNode,
		get:    func() (int, api.Errno) { return *at, api.OK },
		set: func(to int) api.Errno {
			*at = to
			return api.OK
		},
	}
}

// entry is number i in the block that stands at outer.
func entry(t Blocks, outer spot, i, first int) spot {
	table := func() (int, []byte, api.Errno) {
		at, e := outer.get()
		if e != api.OK {
			return 0, nil, e
		}
		b, e := load(t, at)
		return at, b, e
	}
	return spot{
		first:  first,
		within: outer.first,
		get: func() (int, api.Errno) {
			_, b, e := table()
			if e != api.OK {
				return 0, e
			}
			return number(b, i), api.OK
		},
		set: func(to int) api.Errno {
			at, b, e := table()
			if e != api.OK {
				return e
			}
			setNumber(b, i, to)
			return t.Write(at, b)
		},
	}
}

// way is the spots that lead to block i of the file, its own one last. There is
// such a block: whoever asks has held the file's size against Most.
func way(t Blocks, n *inode.Node, i int) []spot {
	at, _ := inode.Where(i)
	switch at.Level {
	case 0:
		return []spot{field(&n.Direct[at.A], i)}
	case 1:
		one := field(&n.One, i-at.A)
		return []spot{one, entry(t, one, at.A, i)}
	}
	two := field(&n.Two, i-at.A*inode.Per-at.B)
	inner := entry(t, two, at.A, i-at.B)
	return []spot{two, inner, entry(t, inner, at.B, i)}
}

// begun is the spots of block i's way that no block ahead of it needs.
func begun(t Blocks, n *inode.Node, i int) []spot {
	return slices.DeleteFunc(way(t, n, i), func(s spot) bool { return s.first < i })
}

// find is the number of block i of the file.
func find(t Blocks, n inode.Node, i int) (int, api.Errno) {
	spots := way(t, &n, i)
	return spots[len(spots)-1].get()
}

// number is number i of a block of numbers, its lowest byte first.
func number(b []byte, i int) int {
	n := 0
	for k, x := range b[i*numberSize : (i+1)*numberSize] {
		n |= int(x) << (8 * k)
	}
	return n
}

func setNumber(b []byte, i, n int) {
	for k := range numberSize {
		b[i*numberSize+k] = byte(n >> (8 * k))
	}
}
