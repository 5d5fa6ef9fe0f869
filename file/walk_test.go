package file

import (
	"bytes"
	"fmt"
	"maps"
	"math/rand/v2"
	"testing"

	"mailbag/api"
	"mailbag/inode"
	"mailbag/wal"
)

// moment is what the files over a pool are at one moment.
type moment struct {
	nodes []inode.Node
	files []plain
	taken map[int]bool
}

func (m moment) twin() moment {
	out := moment{nodes: append([]inode.Node(nil), m.nodes...), taken: maps.Clone(m.taken)}
	for _, f := range m.files {
		out.files = append(out.files, f.twin())
	}
	return out
}

// walker goes on with some files of a pool, and tells where they part from plain ones.
type walker struct {
	*ground
	dice                   *rand.Rand
	txn                    *wal.Txn
	mine, committed, lasts moment
}

func (w *walker) random(size int) []byte {
	b := make([]byte, size)
	for i := range b {
		b[i] = byte(w.dice.IntN(256))
	}
	return b
}

// place is a number up to most, often one at a block's edge.
func (w *walker) place(most int) int {
	n := w.dice.IntN(most + 1)
	switch w.dice.IntN(4) {
	case 0:
		n -= n % 512
	case 1:
		n = min(n-n%512+1, most)
	case 2:
		n = most
	}
	return n
}

func (w *walker) append(k, size int) {
	b := w.random(size)
	n, f := w.mine.nodes[k], w.mine.files[k]
	if inode.All(n.Size+size)-inode.All(n.Size) > w.pool.N-len(w.taken) {
		refusesAppend(w.t, w.txn, w.pool, n, b, api.ErrFull)
		return
	}
	w.mine.nodes[k], w.mine.files[k] = w.appends(w.txn, n, f, b)
}

func (w *walker) put(k int) {
	n, f := w.mine.nodes[k], w.mine.files[k]
	off := w.place(n.Size)
	b := w.random(w.dice.IntN(min(n.Size-off, 2000) + 1))
	if e := Put(w.txn, n, off, b); e != api.OK {
		w.t.Fatalf("P802: Put of %d bytes at %d of %d: %v", len(b), off, n.Size, e)
	}
	copy(f.text[off:], b)
}

func (w *walker) cut(k int) {
	n, f := w.mine.nodes[k], w.mine.files[k]
	w.mine.nodes[k], w.mine.files[k] = w.cuts(w.txn, n, f, w.place(n.Size))
}

// commit keeps what is as it was committed; the plain pool goes with the files.
func (w *walker) commit() {
	if e := w.txn.Commit(); e != api.OK {
		w.t.Fatalf("Commit: %v", e)
	}
	w.mine.taken = w.taken
	w.committed = w.mine.twin()
}

// end ends the transaction in one of its ways, and begins another one.
func (w *walker) end() {
	switch w.dice.IntN(6) {
	case 0:
		w.txn.Abort()
	case 1:
		w.commit()
		w.log.Sync()
		w.lasts = w.committed.twin()
	case 2: // synced, as a Commit may have done so with what was committed
		w.log.Sync()
		w.lasts = w.committed.twin()
		w.disk.Cut(w.dice.IntN(3), w.dice.IntN(3))
		w.disk.On()
		l, e := wal.Open(w.disk)
		if e != api.OK {
			w.t.Fatalf("Open: %v", e)
		}
		w.log = l
		w.committed = w.lasts.twin()
	default:
		w.commit()
	}
	w.mine = w.committed.twin()
	w.taken = w.mine.taken
	w.txn = w.begin()
}

func (w *walker) step() {
	k := w.dice.IntN(len(w.mine.nodes))
	switch kind := w.dice.IntN(100); {
	case w.txn.Writes() > 25: // what a step may write there is room for
		w.end()
	case kind < 62:
		w.append(k, w.dice.IntN(1+[]int{3, 700, 20 * 512}[w.dice.IntN(3)]))
	case kind < 65:
		w.cut(k)
	case kind < 85:
		w.put(k)
	case kind < 95:
		w.end()
	}
}

func (w *walker) check() {
	w.t.Helper()
	for k, n := range w.mine.nodes {
		f := w.mine.files[k]
		for range 3 {
			w.reads(w.txn, n, f, w.place(n.Size+600), w.place(2000))
		}
		if w.dice.IntN(6) == 0 {
			w.same(w.txn, n, f)
		}
	}
	if w.dice.IntN(10) == 0 {
		w.pooled(w.txn)
	}
	if w.t.Failed() {
		w.t.FailNow()
	}
}

func TestWalks(t *testing.T) {
	for seed := range uint64(12) {
		size := []int{30, 200, 500, 900}[seed%4]
		t.Run(fmt.Sprintf("%d blocks, seed %d", size, seed), func(t *testing.T) {
			g := newGround(t, int(seed%3), size)
			start := moment{taken: map[int]bool{}}
			for k := range 1 + int(seed%3) {
				start.nodes = append(start.nodes, inode.Node{Kind: k, Links: k})
				start.files = append(start.files, plain{kind: k, links: k})
			}
			w := &walker{ground: g, dice: rand.New(rand.NewPCG(seed, 8)), txn: g.begin(), mine: start.twin(), committed: start.twin(), lasts: start}
			w.taken = w.mine.taken
			for range 800 {
				w.step()
				w.check()
			}
			w.end()
			for k, n := range w.mine.nodes {
				w.same(w.txn, n, w.mine.files[k])
			}
			w.pooled(w.txn)
		})
	}
}

// TestTextsAreUnlike: what files are held against is no text of one byte, or of bytes 0.
func TestTextsAreUnlike(t *testing.T) {
	b := text(2000)
	if bytes.Contains(b, []byte{0}) || bytes.Equal(b[:512], b[512:1024]) {
		t.Error("the text is too plain")
	}
}
