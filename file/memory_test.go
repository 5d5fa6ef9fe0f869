package file

import (
	"bytes"
	"fmt"
	"testing"

	"mailbag/api"
	"mailbag/inode"
	"mailbag/wal"
)

// roomy is b with spare room behind it that has bytes of its own.
func roomy(b []byte) []byte {
	room := append(bytes.Clone(b), bytes.Repeat([]byte{0x5A}, 1100)...)
	return room[:len(b)]
}

// TestBytesAreNotChangedNorKept: P2, of what Append and Put are handed, its spare room too.
func TestBytesAreNotChangedNorKept(t *testing.T) {
	g := newGround(t, 1, 60)
	for _, size := range []int{0, 1, 300, 512, 1024, 1500, 20 * 512} {
		b := roomy(text(size))
		was := bytes.Clone(b[:cap(b)])
		held := func(name string) {
			t.Helper()
			if !bytes.Equal(b[:cap(b)], was) {
				t.Errorf("P2: %s of %d bytes changed what it was handed", name, size)
			}
		}
		g.try(func(x *wal.Txn) {
			n, f := g.appends(x, inode.Node{}, plain{}, b)
			held("Append")
			n, f = g.appends(x, n, f, b)
			held("Append")
			if e := Put(x, n, size/2, b); e != api.OK {
				t.Fatalf("P802: Put: %v", e)
			}
			held("Put")
			copy(f.text[size/2:], was[:size])
			clear(b[:cap(b)])
			g.same(x, n, f)
		})
		b = roomy(text(size))
		g.try(func(x *wal.Txn) {
			refusesAppend(t, x, g.pool, inode.Node{Size: inode.Most()}, append(b, 1), api.ErrLong)
			refusesPut(t, x, inode.Node{}, 1, b, api.ErrArg)
			b[:cap(b)][len(b)] = 0x5A
			held("a call that was refused")
		})
	}
}

// TestAnswersAreNewMemory: what is done with one, its spare room too, is not seen in others, nor in the file.
func TestAnswersAreNewMemory(t *testing.T) {
	g := newGround(t, 1, 160)
	n, f := g.grown(far*512 + 5)
	x := g.begin()
	for _, c := range []struct{ off, count int }{{0, 10}, {0, 512}, {512, 512}, {700, 5000}, {0, 1 << 30}, {n.Size, 1}} {
		b, _ := Read(x, n, c.off, c.count)
		b = b[:cap(b)]
		for i := range b {
			b[i] = 0xEE
		}
		g.same(x, n, f)
	}
	for range 2 {
		used, _ := Used(x, n)
		used = used[:cap(used)]
		for i := range used {
			used[i] = -1
		}
		g.same(x, n, f)
	}
}

// TestBlocksMemoryIsTheirs: what Blocks hand out is neither changed nor answered.
func TestBlocksMemoryIsTheirs(t *testing.T) {
	s, n, f := shelved(t)
	for _, c := range []struct{ off, count int }{{0, 512}, {3, 7}, {512, 512}, {0, 1 << 30}} {
		b, _ := Read(s, n, c.off, c.count)
		clear(b[:cap(b)])
	}
	Used(s, n)
	for at, want := range f.blocks() {
		if !bytes.Equal(s.blocks[at], want) {
			t.Fatalf("P2: block %d changed with an answer", at)
		}
	}
}

// TestNodesAreValues: one that was handed in stays as it was.
func TestNodesAreValues(t *testing.T) {
	g := newGround(t, 1, 60)
	n, f := g.grown(20 * 512)
	was := n
	g.try(func(x *wal.Txn) {
		Append(x, g.pool, n, text(3000))
		Cut(x, g.pool, n, 3)
		Put(x, n, 1, text(3))
		Used(x, n)
	})
	if n != was {
		t.Errorf("P2: a node changed: %v; want %v", n, was)
	}
	g.try(func(x *wal.Txn) { g.same(x, n, f) })
}

// TestSameCallsAnswerTheSame: P3, also behind calls that were refused.
func TestSameCallsAnswerTheSame(t *testing.T) {
	var first string
	for range 3 {
		g := newGround(t, 1, 60)
		x := g.begin()
		told := ""
		tell := func(said ...any) { told += fmt.Sprintln(said...) }
		n, e := Append(x, g.pool, inode.Node{Kind: inode.File}, text(12*512+7))
		tell(n, e)
		_, e = Append(x, g.pool, n, text(60*512))
		tell(e, Put(x, n, 700, text(900)), Put(x, n, -1, nil))
		m, e := Append(x, g.pool, inode.Node{Kind: inode.Dir}, text(3000))
		tell(m, e)
		n, e = Cut(x, g.pool, n, 2000)
		tell(n, e)
		m, e = Append(x, g.pool, m, text(9000))
		tell(m, e)
		used, e := Used(x, m)
		tell(used, e)
		b, e := Read(x, m, 100, 5000)
		tell(b, e)
		state, writes := g.state(x)
		tell(state, writes)
		if first == "" {
			first = told
		}
		if told != first {
			t.Fatal("P3: the same calls answered otherwise")
		}
	}
}
