package tree

import (
	"bytes"
	"fmt"
	"strings"
	"testing"

	"mailbag/api"
)

func create(s string) Op        { return Op{Kind: Create, Path: s} }
func mkdir(s string) Op         { return Op{Kind: Mkdir, Path: s} }
func add(s, text string) Op     { return Op{Kind: Append, Path: s, Data: []byte(text)} }
func grow(s string, n int) Op   { return add(s, letters(n)) }
func cut(s string, n int) Op    { return Op{Kind: Cut, Path: s, N: n} }
func unlink(s string) Op        { return Op{Kind: Unlink, Path: s} }
func rmdir(s string) Op         { return Op{Kind: Rmdir, Path: s} }
func rename(from, to string) Op { return Op{Kind: Rename, Path: from, To: to} }

// letters are n bytes that tell where they stand.
func letters(n int) string {
	b := make([]byte, n)
	for i := range b {
		b[i] = byte('a' + (i+i/512)%26)
	}
	return string(b)
}

func many(n int, s string) string { return strings.Repeat(s, n) }

// ground is a tree with a plain one beside it, both of which do the same.
type ground struct {
	*testing.T
	tree  *Tree
	plain *plain
}

func newGround(t *testing.T, blocks, inodes int, ops ...Op) *ground {
	t.Helper()
	x, e := New(blocks, inodes)
	if e != api.OK || x == nil {
		t.Fatalf("P1101: New(%d, %d): %v", blocks, inodes, e)
	}
	g := &ground{t, x, newPlain(blocks, inodes)}
	g.ok(ops...)
	return g
}

func named(o Op) string {
	word := map[int]string{Create: "Create", Mkdir: "Mkdir", Append: "Append", Cut: "Cut", Unlink: "Unlink", Rmdir: "Rmdir", Rename: "Rename"}[o.Kind]
	if word == "" {
		word = fmt.Sprint("act ", o.Kind)
	}
	return fmt.Sprintf("%s %.60q %.60q, %d bytes, N %d", word, o.Path, o.To, len(o.Data), o.N)
}

// same tells where the tree and the plain one part.
func (g *ground) same(behind string) {
	g.Helper()
	if got, want := tell(g.tree), g.plain.told(); got != want {
		g.Fatalf("P1102: behind %s:\n%.2000s\nwant\n%.2000s", behind, got, want)
	}
	agree(g.T, g.tree, g.plain)
}

// does does one act; one that is refused changes nothing, and neither changes its bytes.
func (g *ground) does(o Op) api.Errno {
	g.Helper()
	was := tell(g.tree)
	data := bytes.Clone(o.Data)
	want := g.plain.do(o)
	got := g.tree.Do(o)
	if got != want {
		g.Fatalf("P1102: %s: %v; want %v", named(o), got, want)
	}
	if now := tell(g.tree); got != api.OK && now != was {
		g.Fatalf("P5: %s: %v, and yet:\n%.2000s\nbehind\n%.2000s", named(o), got, now, was)
	}
	if !bytes.Equal(o.Data, data) {
		g.Fatalf("P2: %s changed its bytes", named(o))
	}
	g.same(named(o))
	return got
}

func (g *ground) refuses(want api.Errno, ops ...Op) {
	g.Helper()
	for _, o := range ops {
		if e := g.does(o); e != want {
			g.Errorf("P1102: %s: %v; want %v", named(o), e, want)
		}
	}
}

func (g *ground) ok(ops ...Op) {
	g.Helper()
	g.refuses(api.OK, ops...)
}

func (g *ground) free(blocks, inodes int) {
	g.Helper()
	if b, i := g.tree.Free(); b != blocks || i != inodes {
		g.Errorf("P1101: free are %d, %d; want %d, %d", b, i, blocks, inodes)
	}
}

// has holds all paths, a slash behind those of directories.
func (g *ground) has(want string) {
	g.Helper()
	if got := walked(g.tree); got != want {
		g.Errorf("P1102: the tree has %q; want %q", got, want)
	}
}

func walked(x *Tree) string {
	var out []string
	for s, info := range x.Walk() {
		if info.Dir {
			s += "/"
		}
		out = append(out, s)
	}
	return strings.Join(out, " ")
}

// fill makes n files of a directory, from the one with number from on.
func (g *ground) fill(up string, from, n int) {
	g.Helper()
	for i := from; i < from+n; i++ {
		o := create(fmt.Sprintf("%s/f%d", up, i))
		g.plain.do(o)
		if e := g.tree.Do(o); e != api.OK {
			g.Fatalf("P1102: %s: %v", named(o), e)
		}
	}
	g.same("many files")
}

// eat leaves so many blocks, by a file that has the others.
func (g *ground) eat(s string, leave int) {
	g.Helper()
	blocks, _ := g.tree.Free()
	info, _ := g.tree.Stat(s)
	for size := 0; ; size += 512 {
		if more := needs(info.Size+size) - needs(info.Size); more == blocks-leave {
			g.ok(grow(s, size))
			break
		} else if more > blocks-leave {
			g.Fatalf("no file leaves %d of %d blocks", leave, blocks)
		}
	}
	if left, _ := g.tree.Free(); left != leave {
		g.Fatalf("P1101: %d blocks are free; want %d", left, leave)
	}
}
