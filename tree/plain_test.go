package tree

import (
	"crypto/sha256"
	"fmt"
	"maps"
	"slices"
	"strconv"
	"strings"
	"testing"

	"mailbag/api"
	"mailbag/dir"
	"mailbag/path"
)

// thing is a file or a directory of a plain tree, a directory with slots that have places.
type thing struct {
	dir   bool
	text  string
	slots dir.Slots
}

// plain is a tree told flat, by the texts of paths; the root's is the empty one.
type plain struct {
	things         map[string]*thing
	blocks, inodes int // in all
}

func newPlain(blocks, inodes int) *plain {
	return &plain{map[string]*thing{"": {dir: true}}, blocks, inodes}
}

// needs is how many blocks so many bytes need: 8 are found from the inode, 128 from
// a block of numbers, and 128 from each block that a further one has the numbers of.
func needs(size int) int {
	n := (size + 511) / 512
	switch {
	case n <= 8:
		return n
	case n <= 136:
		return n + 1
	}
	return n + 2 + (n-136+127)/128
}

func (x *thing) blocks() int {
	if x.dir {
		return needs((len(x.slots) + 7) / 8 * 512)
	}
	return needs(len(x.text))
}

// free counts what all things have.
func (p *plain) free() (blocks, inodes int) {
	blocks = p.blocks
	for _, x := range p.things {
		blocks -= x.blocks()
	}
	return blocks, p.inodes - len(p.things)
}

// cutLast is the text ahead of the last slash, and behind it.
func cutLast(s string) (string, string) {
	at := strings.LastIndex(s, "/")
	return s[:at], s[at+1:]
}

// flat is a path as a plain tree has it.
func flat(s string) string { return strings.TrimSuffix(s, "/") }

// way tells of all that stands above a path.
func (p *plain) way(s string) api.Errno {
	for i := 1; i < len(s); i++ {
		if s[i] != '/' {
			continue
		}
		above := p.things[s[:i]]
		if above == nil {
			return api.ErrNone
		}
		if !above.dir {
			return api.ErrFile
		}
	}
	return api.OK
}

// put gives a path a slot, if there are blocks for it.
func (p *plain) put(s string, x *thing) api.Errno {
	up, name := cutLast(s)
	was := p.things[up].slots
	blocks, _ := p.free()
	had := p.things[up].blocks()
	p.things[up].slots, _, _ = was.Put(name, 1)
	if p.things[up].blocks()-had > blocks {
		p.things[up].slots = was
		return api.ErrFull
	}
	p.things[s] = x
	return api.OK
}

func (p *plain) take(s string) {
	up, name := cutLast(s)
	p.things[up].slots, _, _ = p.things[up].slots.Take(name)
	delete(p.things, s)
}

func (p *plain) do(o Op) api.Errno {
	if !slices.Contains([]int{Create, Mkdir, Append, Cut, Unlink, Rmdir, Rename}, o.Kind) {
		return api.ErrArg
	}
	if _, e := path.Split(o.Path); e != api.OK {
		return e
	}
	if _, e := path.Split(o.To); o.Kind == Rename && e != api.OK {
		return e
	}
	at := flat(o.Path)
	if e := p.way(at); e != api.OK {
		return e
	}
	x := p.things[at]
	switch o.Kind {
	case Create, Mkdir:
		return p.add(at, x, o.Kind == Mkdir)
	case Append:
		return p.append(x, string(o.Data))
	case Cut:
		return p.cut(x, o.N)
	case Unlink, Rmdir:
		return p.gone(at, x, o.Kind == Rmdir)
	}
	return p.rename(at, flat(o.To))
}

func (p *plain) add(at string, x *thing, dir bool) api.Errno {
	if x != nil {
		return api.ErrExists
	}
	if _, inodes := p.free(); inodes == 0 {
		return api.ErrFull
	}
	return p.put(at, &thing{dir: dir})
}

func (p *plain) append(x *thing, text string) api.Errno {
	if x == nil {
		return api.ErrNone
	}
	if x.dir {
		return api.ErrDir
	}
	size := len(x.text) + len(text)
	if size > 512*(8+128+128*128) {
		return api.ErrLong
	}
	if blocks, _ := p.free(); needs(size)-x.blocks() > blocks {
		return api.ErrFull
	}
	x.text += text
	return api.OK
}

func (p *plain) cut(x *thing, n int) api.Errno {
	if x == nil {
		return api.ErrNone
	}
	if x.dir {
		return api.ErrDir
	}
	if n < 0 || n > len(x.text) {
		return api.ErrArg
	}
	x.text = x.text[:n]
	return api.OK
}

func (p *plain) gone(at string, x *thing, dir bool) api.Errno {
	switch {
	case x == nil:
		return api.ErrNone
	case x.dir && !dir:
		return api.ErrDir
	case !x.dir && dir:
		return api.ErrFile
	case at == "" || len(x.slots.Names()) > 0:
		return api.ErrBusy
	}
	p.take(at)
	return api.OK
}

func (p *plain) rename(from, to string) api.Errno {
	x, y := p.things[from], p.things[to]
	if x == nil {
		return api.ErrNone
	}
	if from == "" || to == "" {
		return api.ErrBusy
	}
	if e := p.way(to); e != api.OK {
		return e
	}
	switch {
	case strings.HasPrefix(to, from+"/"):
		return api.ErrBusy
	case from == to:
		return api.OK
	case y != nil && y.dir && !x.dir:
		return api.ErrDir
	case y != nil && !y.dir && x.dir:
		return api.ErrFile
	case y != nil && len(y.slots.Names()) > 0:
		return api.ErrBusy
	}
	return p.move(from, to, x, y)
}

func (p *plain) move(from, to string, x, y *thing) api.Errno {
	up, old := cutLast(from)
	other, name := cutLast(to)
	switch {
	case y != nil:
		p.things[to] = x
		p.take(from)
	case up == other:
		p.things[up].slots, _ = p.things[up].slots.Move(old, name)
		delete(p.things, from)
		p.things[to] = x
	default:
		if e := p.put(to, x); e != api.OK {
			return e
		}
		p.take(from)
	}
	for _, s := range slices.Collect(maps.Keys(p.things)) {
		if strings.HasPrefix(s, from+"/") {
			p.things[to+s[len(from):]] = p.things[s]
			delete(p.things, s)
		}
	}
	return api.OK
}

func (p *plain) twin() *plain {
	other := &plain{map[string]*thing{}, p.blocks, p.inodes}
	for s, x := range p.things {
		y := *x
		other.things[s] = &y
	}
	return other
}

// info is what is to be told of a thing.
func (x *thing) info() Info {
	if x.dir {
		return Info{Dir: true, Kids: len(x.slots.Names())}
	}
	return Info{Size: len(x.text)}
}

// paths are all but the root, held against each other name by name.
func (p *plain) paths() []string {
	all := slices.Collect(maps.Keys(p.things))
	slices.SortFunc(all, func(a, b string) int {
		return slices.Compare(strings.Split(a, "/"), strings.Split(b, "/"))
	})
	return all[1:]
}

// tooDeep is what can't be asked for any more, since a Rename brought it there.
func tooDeep(s string) bool { return len(s) > 256 || strings.Count(s, "/") > 8 }

// brief is a text, or its sum: no two texts have the same.
func brief(text string) string {
	if len(text) < 100 {
		return strconv.Quote(text)
	}
	return fmt.Sprintf("%x", sha256.Sum256([]byte(text)))
}

// told is all that a plain tree is to tell, in the form of tell.
func (p *plain) told() string {
	var out strings.Builder
	blocks, inodes := p.free()
	fmt.Fprintln(&out, blocks, inodes)
	fmt.Fprintln(&out, "/", p.things[""].info())
	for _, s := range p.paths() {
		text := p.things[s].text
		if tooDeep(s) {
			text = ""
		}
		fmt.Fprintln(&out, s, p.things[s].info(), brief(text))
	}
	return out.String()
}

// tell is all that a tree tells: what is free, paths, kinds, sizes, bytes.
func tell(x *Tree) string {
	var out strings.Builder
	blocks, inodes := x.Free()
	fmt.Fprintln(&out, blocks, inodes)
	root, _ := x.Stat("/")
	fmt.Fprintln(&out, "/", root)
	for s, info := range x.Walk() {
		text, _ := x.Read(s)
		fmt.Fprintln(&out, s, info, brief(string(text)))
	}
	return out.String()
}

// agree holds Stat, Read and List of all paths against those of the plain tree.
func agree(t *testing.T, x *Tree, p *plain) {
	t.Helper()
	for s, y := range p.things {
		s = "/" + strings.TrimPrefix(s, "/")
		if tooDeep(s) {
			continue
		}
		stats(t, x, s, y.info())
		if y.dir {
			reads(t, x, s, "", api.ErrDir)
			lists(t, x, s, api.OK, y.slots.Names()...)
		} else {
			reads(t, x, s, y.text, api.OK)
			lists(t, x, s, api.ErrFile)
		}
	}
}

func stats(t *testing.T, x *Tree, s string, want Info) {
	t.Helper()
	if got, e := x.Stat(s); got != want || e != api.OK {
		t.Errorf("P1102: Stat(%q): %+v, %v; want %+v", s, got, e, want)
	}
}

// unknown asks all that tell of a path: the error, and zero values beside it.
func unknown(t *testing.T, x *Tree, s string, want api.Errno) {
	t.Helper()
	if got, e := x.Stat(s); got != (Info{}) || e != want {
		t.Errorf("P1102: Stat(%q): %+v, %v; want %v", s, got, e, want)
	}
	reads(t, x, s, "", want)
	lists(t, x, s, want)
}

func reads(t *testing.T, x *Tree, s, want string, err api.Errno) {
	t.Helper()
	if got, e := x.Read(s); string(got) != want || e != err {
		t.Errorf("P1102: Read(%q): %.40q of %d, %v; want %.40q of %d, %v", s, got, len(got), e, want, len(want), err)
	}
}

func lists(t *testing.T, x *Tree, s string, err api.Errno, want ...string) {
	t.Helper()
	if got, e := x.List(s); !slices.Equal(got, want) || e != err {
		t.Errorf("P1102: List(%q): %q, %v; want %q, %v", s, got, e, want, err)
	}
}
