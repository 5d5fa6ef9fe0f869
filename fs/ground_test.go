package fs

import (
	"bytes"
	"fmt"
	"slices"
	"strings"
	"testing"

	"mailbag/api"
	"mailbag/block"
	"mailbag/inode"
	"mailbag/tree"
)

func create(s string) tree.Op        { return tree.Op{Kind: tree.Create, Path: s} }
func mkdir(s string) tree.Op         { return tree.Op{Kind: tree.Mkdir, Path: s} }
func add(s, text string) tree.Op     { return tree.Op{Kind: tree.Append, Path: s, Data: []byte(text)} }
func grow(s string, n int) tree.Op   { return add(s, letters(n)) }
func cut(s string, n int) tree.Op    { return tree.Op{Kind: tree.Cut, Path: s, N: n} }
func unlink(s string) tree.Op        { return tree.Op{Kind: tree.Unlink, Path: s} }
func rmdir(s string) tree.Op         { return tree.Op{Kind: tree.Rmdir, Path: s} }
func rename(from, to string) tree.Op { return tree.Op{Kind: tree.Rename, Path: from, To: to} }

// letters are n bytes that tell where they stand.
func letters(n int) string {
	b := make([]byte, n)
	for i := range b {
		b[i] = byte('a' + (i+i/512)%26)
	}
	return string(b)
}

func many(n int, s string) string { return strings.Repeat(s, n) }

// dataBlocks is how many data blocks a disk of so many blocks has: 65 are the log's,
// 33 own and inodes, and a map has 4096 bits a block.
func dataBlocks(disk int) int {
	rest := disk - 98
	for maps := 1; ; maps++ {
		if maps*4096 >= rest-maps {
			return rest - maps
		}
	}
}

// ground is a file system with chapter 11's tree beside it, both of which do the same.
type ground struct {
	*testing.T
	disk *block.Disk
	fs   *FS
	tree *tree.Tree
	open map[int]string // the paths of files that are open, as they are now
}

func newDisk(t *testing.T, blocks int) *block.Disk {
	t.Helper()
	d, e := block.New(blocks)
	if e != api.OK {
		t.Fatal(e)
	}
	return d
}

func made(t *testing.T, d *block.Disk) *FS {
	t.Helper()
	f, e := Mkfs(d)
	if e != api.OK || f == nil {
		t.Fatalf("P1201: Mkfs: %v", e)
	}
	return f
}

func mounted(t *testing.T, d *block.Disk) *FS {
	t.Helper()
	f, e := Mount(d)
	if e != api.OK || f == nil {
		t.Fatalf("P1201: Mount: %v", e)
	}
	return f
}

// newGround has a disk of so many data blocks, one map block at most.
func newGround(t *testing.T, blocks int, ops ...tree.Op) *ground {
	t.Helper()
	return groundOf(t, 99+blocks, ops...)
}

func groundOf(t *testing.T, disk int, ops ...tree.Op) *ground {
	t.Helper()
	d := newDisk(t, disk)
	x, e := tree.New(dataBlocks(disk), api.MaxInodes)
	if e != api.OK {
		t.Fatal(e)
	}
	g := &ground{t, d, made(t, d), x, map[int]string{}}
	g.ok(ops...)
	return g
}

func named(o tree.Op) string {
	words := []string{"act", "Create", "Mkdir", "Append", "Cut", "Unlink", "Rmdir", "Rename"}
	word := fmt.Sprint("act ", o.Kind)
	if o.Kind > 0 && o.Kind < len(words) {
		word = words[o.Kind]
	}
	return fmt.Sprintf("%s %.60q %.60q, %d bytes, N %d", word, o.Path, o.To, len(o.Data), o.N)
}

// askable is whether a thing that Walk tells has a path: a Rename may have brought it too deep.
func askable(s string) bool { return len(s) <= 256 && strings.Count(s, "/") <= 8 }

// same tells where the file system and the tree part.
func (g *ground) same(behind string) {
	g.Helper()
	told := g.fs.Tree()
	if told == nil {
		g.Fatalf("P1202: behind %s there is no Tree", behind)
	}
	if !tree.Same(told, g.tree) {
		g.Fatalf("P1202: behind %s the tree is\n%.1500s\nwant\n%.1500s", behind, walked(told), walked(g.tree))
	}
	blocks, inodes := g.tree.Free()
	g.free(blocks, inodes)
	if b, i := told.Free(); b != blocks || i != inodes {
		g.Fatalf("P1202: behind %s free in Tree are %d, %d; want %d, %d", behind, b, i, blocks, inodes)
	}
	g.asked("/")
	for _, s := range g.some(60) {
		if askable(s) {
			g.asked(s)
		}
	}
	g.opened(behind)
	if g.Failed() {
		g.Fatalf("that is behind %s", behind)
	}
}

// some are all paths, or, where these are many, so many of them, from one end to the other.
func (g *ground) some(most int) []string {
	var all, some []string
	for s := range g.tree.Walk() {
		all = append(all, s)
	}
	for i := 0; i < len(all); i += 1 + len(all)/most {
		some = append(some, all[i])
	}
	return some
}

// asked holds Stat, Get and List of a path against the tree's.
func (g *ground) asked(s string) {
	g.Helper()
	wantInfo, want1 := g.tree.Stat(s)
	wantBytes, want2 := g.tree.Read(s)
	wantNames, want3 := g.tree.List(s)
	info, e1 := g.fs.Stat(s)
	b, e2 := g.fs.Get(s)
	names, e3 := g.fs.List(s)
	if info != wantInfo || e1 != want1 {
		g.Errorf("P1202: Stat(%.60q): %+v, %v; want %+v, %v", s, info, e1, wantInfo, want1)
	}
	if !bytes.Equal(b, wantBytes) || e2 != want2 || e2 != api.OK && b != nil {
		g.Errorf("P1202: Get(%.60q): %.40q of %d, %v; want %.40q of %d, %v", s, b, len(b), e2, wantBytes, len(wantBytes), want2)
	}
	if !slices.Equal(names, wantNames) || e3 != want3 || e3 != api.OK && names != nil {
		g.Errorf("P1202: List(%.60q): %q, %v; want %q, %v", s, names, e3, wantNames, want3)
	}
}

// opened holds what descriptors read against the tree's files.
func (g *ground) opened(behind string) {
	g.Helper()
	for fd := -1; fd <= api.MaxOpen; fd++ {
		s, ok := g.open[fd]
		if !ok {
			if b, e := g.fs.Read(fd, 0, 1); e != api.ErrBad || b != nil {
				g.Errorf("P1203: behind %s: Read of %d, which is not open: %q, %v", behind, fd, b, e)
			}
			continue
		}
		want, _ := g.tree.Read(s)
		if b, e := g.fs.Read(fd, 0, 1<<30); askable(s) && !bytes.Equal(b, want) || e != api.OK {
			g.Errorf("P1203: behind %s: Read of %d: %.40q of %d, %v; want %.40q of %d", behind, fd, b, len(b), e, want, len(want))
		}
	}
}

func walked(x *tree.Tree) string {
	var out []string
	for s, info := range x.Walk() {
		if info.Dir {
			s += "/"
		}
		out = append(out, fmt.Sprint(s, " ", info.Size))
	}
	return strings.Join(out, "\n")
}

func (g *ground) isOpen(s string) bool {
	for _, at := range g.open {
		if at == s {
			return true
		}
	}
	return false
}

// expects does an act with the tree, if the file system is to do it.
func (g *ground) expects(o tree.Op) api.Errno {
	twin := g.tree
	if risky := o.Kind == tree.Unlink && g.isOpen(o.Path) || o.Kind == tree.Rename && g.isOpen(o.To) || len(o.Data) > 8192; risky {
		twin = g.tree.Twin()
	}
	if e := twin.Do(o); e != api.OK {
		return e
	}
	switch {
	case o.Kind == tree.Unlink && g.isOpen(o.Path), o.Kind == tree.Rename && o.Path != o.To && g.isOpen(o.To):
		return api.ErrBusy
	case o.Kind == tree.Append && len(o.Data) > 8192:
		return api.ErrLong
	}
	g.tree = twin
	for fd, s := range g.open {
		if rest, ok := strings.CutPrefix(s+"/", o.Path+"/"); ok && o.Kind == tree.Rename {
			g.open[fd] = strings.TrimSuffix(o.To+"/"+rest, "/")
		}
	}
	return api.OK
}

// does does one act, and holds all that can be told against the tree: of an act that
// is refused that is what could be told ahead of it.
func (g *ground) does(o tree.Op) api.Errno {
	g.Helper()
	e := g.quick(o)
	g.same(named(o))
	return e
}

// quick is does without all that can be told.
func (g *ground) quick(o tree.Op) api.Errno {
	g.Helper()
	data := bytes.Clone(o.Data)
	want := g.expects(o)
	got := g.fs.Do(o)
	if got != want {
		g.Fatalf("P1202: %s: %v; want %v", named(o), got, want)
	}
	if !bytes.Equal(o.Data, data) {
		g.Fatalf("P2: %s changed its bytes", named(o))
	}
	return got
}

func (g *ground) refuses(want api.Errno, ops ...tree.Op) {
	g.Helper()
	for _, o := range ops {
		if e := g.does(o); e != want {
			g.Errorf("P1202: %s: %v; want %v", named(o), e, want)
		}
	}
}

func (g *ground) ok(ops ...tree.Op) {
	g.Helper()
	g.refuses(api.OK, ops...)
}

func (g *ground) free(blocks, inodes int) {
	g.Helper()
	if b, i := g.fs.Free(); b != blocks || i != inodes {
		g.Errorf("P1202: free are %d, %d; want %d, %d", b, i, blocks, inodes)
	}
}

// opens opens a file, and holds its number against the least that is not open.
func (g *ground) opens(s string) int {
	g.Helper()
	want := 0
	for _, ok := g.open[want]; ok; _, ok = g.open[want] {
		want++
	}
	fd, e := g.fs.Open(s)
	if fd != want || e != api.OK {
		g.Fatalf("P1203: Open(%q): %d, %v; want %d", s, fd, e, want)
	}
	g.open[fd] = s
	return fd
}

func (g *ground) closes(fd int) {
	g.Helper()
	if e := g.fs.Close(fd); e != api.OK {
		g.Fatalf("P1203: Close(%d): %v", fd, e)
	}
	delete(g.open, fd)
}

// appends is Append by a descriptor, and by its path in the tree.
func (g *ground) appends(fd int, text string) api.Errno {
	g.Helper()
	want := g.expects(add(g.open[fd], text))
	got := g.fs.Append(fd, []byte(text))
	if got != want {
		g.Fatalf("P1203: Append of %d bytes to %d: %v; want %v", len(text), fd, got, want)
	}
	g.same("Append by a descriptor")
	return got
}

func (g *ground) sync() {
	g.Helper()
	if e := g.fs.Sync(); e != api.OK {
		g.Fatalf("P1203: Sync: %v", e)
	}
}

// again lets the power go and come behind a Sync, and mounts.
func (g *ground) again(picks ...int) {
	g.Helper()
	g.sync()
	g.disk.Cut(picks...)
	g.disk.On()
	g.fs = mounted(g.T, g.disk)
	g.open = map[int]string{}
	g.same("Mount")
}

// fill makes n files of a directory, from the one with number from on.
func (g *ground) fill(up string, from, n int) {
	g.Helper()
	for i := from; i < from+n; i++ {
		g.quickly(create(fmt.Sprintf("%s/f%d", up, i)))
	}
	g.same("many files")
}

func (g *ground) quickly(ops ...tree.Op) {
	g.Helper()
	for _, o := range ops {
		if e := g.quick(o); e != api.OK {
			g.Fatalf("P1202: %s: %v", named(o), e)
		}
	}
}

// bears is fill, and Appends of so many bytes in all.
func (g *ground) bears(s string, size int) {
	g.Helper()
	for size > 0 {
		n := min(size, 8192)
		g.quickly(grow(s, n))
		size -= n
	}
	g.same("many Appends")
}

// eat leaves so many blocks, by a file that has the others.
func (g *ground) eat(s string, leave int) {
	g.Helper()
	blocks, _ := g.fs.Free()
	info, _ := g.fs.Stat(s)
	for size := 0; ; size += 512 {
		if more := inode.All(info.Size+size) - inode.All(info.Size); more == blocks-leave {
			g.bears(s, size)
			break
		} else if more > blocks-leave {
			g.Fatalf("no file leaves %d of %d blocks", leave, blocks)
		}
	}
	if left, _ := g.fs.Free(); left != leave {
		g.Fatalf("P1202: %d blocks are free; want %d", left, leave)
	}
}
