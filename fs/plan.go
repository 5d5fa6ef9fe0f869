package fs

import (
	"slices"
	"strconv"
	"strings"

	"mailbag/api"
	"mailbag/path"
	"mailbag/tree"
)

// plan is acts that make a tree. Files come behind all directories, where they
// can: a directory that had more names once needs inodes for as many again.
type plan struct {
	acts, late []tree.Op
	top        *thing
	spares     int // names of directories that stood in the root for a while
}

func planFor(top *thing) []tree.Op {
	p := &plan{top: top}
	p.widen(top, "")
	p.lay(top, "", "")
	return append(p.acts, p.late...)
}

// replay does acts on an empty tree. What is refused are names that are to be there
// for a while, and that no inode is left for: a directory has fewer slots then.
func replay(acts []tree.Op, blocks int) *tree.Tree {
	t, e := tree.New(blocks, api.MaxInodes)
	if e != api.OK {
		return nil
	}
	for _, o := range acts {
		t.Do(o)
	}
	return t
}

// lay makes directory x at a path, which is to become home later; the root is there.
// What stands so deep that it has no path is made in the root, and then renamed.
func (p *plan) lay(x *thing, at, home string) {
	var near []*thing
	var moves []tree.Op
	for _, kid := range x.kids {
		to := at + "/" + kid.name
		switch {
		case !kid.dir:
		case kid.fits(to):
			near = append(near, kid)
		default:
			apart := p.spare()
			p.lay(kid, apart, home+"/"+kid.name)
			moves = append(moves, tree.Op{Kind: tree.Rename, Path: apart, To: to})
		}
	}
	if x != p.top {
		p.acts = append(p.acts, tree.Op{Kind: tree.Mkdir, Path: at})
		p.widen(x, at)
	}
	p.acts = append(p.acts, moves...)
	for _, kid := range near {
		p.lay(kid, at+"/"+kid.name, home+"/"+kid.name)
	}
	p.fill(x, at, home)
}

// widen lets a directory that is empty have so many names at once that it has its
// slots behind that.
func (p *plan) widen(x *thing, at string) {
	if !x.hadMore() {
		return
	}
	for _, kind := range []int{tree.Create, tree.Unlink} {
		for n := range x.slots - api.Slots + 1 {
			p.acts = append(p.acts, tree.Op{Kind: kind, Path: at + "/" + strconv.Itoa(n)})
		}
	}
}

// fill makes the files of directory x, at home if that is a path.
func (p *plan) fill(x *thing, at, home string) {
	for _, kid := range x.kids {
		if kid.dir {
			continue
		}
		to := home + "/" + kid.name
		if _, e := path.Split(to); e == api.OK {
			p.late = append(p.late, making(to, kid.data)...)
		} else {
			p.acts = append(p.acts, making(at+"/"+kid.name, kid.data)...)
		}
	}
}

func making(s string, data []byte) []tree.Op {
	return []tree.Op{{Kind: tree.Create, Path: s}, {Kind: tree.Append, Path: s, Data: data}}
}

// spare is the path of a directory that is to stand in the root for a while.
func (p *plan) spare() string {
	for {
		p.spares++
		name := strconv.Itoa(p.spares)
		if !slices.ContainsFunc(p.top.kids, func(kid *thing) bool { return kid.name == name }) {
			return "/" + name
		}
	}
}

// hadMore is whether a directory has blocks of slots that its names now don't need.
func (x *thing) hadMore() bool {
	return len(x.kids) <= x.slots-api.Slots
}

// fits is whether all that is in x has a path, if x stands at that one.
func (x *thing) fits(at string) bool {
	deep, long := x.extent()
	return strings.Count(at, "/")+deep <= api.MaxDepth && len(at)+long <= api.MaxPath
}

// extent is how deep it goes below x, and how many bytes that adds to x's path at
// most, with the names that x has for a while.
func (x *thing) extent() (deep, long int) {
	if x.hadMore() {
		deep, long = 1, len("/"+strconv.Itoa(api.MaxInodes))
	}
	for _, kid := range x.kids {
		d, l := kid.extent()
		deep = max(deep, d+1)
		long = max(long, l+1+len(kid.name))
	}
	return deep, long
}
