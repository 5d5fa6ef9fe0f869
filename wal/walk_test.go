package wal

import (
	"bytes"
	"fmt"
	"math/rand/v2"
	"strings"
	"testing"

	"mailbag/api"
	"mailbag/block"
)

// plain is a log that is told by texts alone, a letter a block.
type plain struct {
	lasts, committed string
	mine             string // what the transaction that is open has
	written          []bool // by it
	isOpen           bool
	waits            []bool // which blocks were committed since the last Sync
	pending          int
}

func newPlain(lasts string) *plain {
	return &plain{lasts: lasts, committed: lasts, waits: make([]bool, len(lasts))}
}

func set(text string, n int, c byte) string { return text[:n] + string(c) + text[n+1:] }

func count(lists ...[]bool) int {
	together := 0
	for n := range lists[0] {
		for _, l := range lists {
			if l[n] {
				together++
				break
			}
		}
	}
	return together
}

func (p *plain) begin() string {
	if p.isOpen {
		return "order"
	}
	p.isOpen, p.mine, p.written = true, p.committed, make([]bool, len(p.lasts))
	return "ok"
}

func (p *plain) write(n int, c byte) string {
	switch {
	case n < 0 || n >= len(p.lasts):
		return "arg"
	case !p.isOpen:
		return "order"
	case !p.written[n] && count(p.written) == 63:
		return "full"
	}
	p.mine, p.written[n] = set(p.mine, n, c), true
	return "ok"
}

// syncsFirst is whether a Commit now would.
func (p *plain) syncsFirst() bool { return p.isOpen && count(p.written, p.waits) > 63 }

func (p *plain) commit() string {
	if !p.isOpen {
		return "order"
	}
	if p.syncsFirst() {
		p.sync()
	}
	for n, was := range p.written {
		if was {
			p.waits[n] = true
		}
	}
	p.isOpen, p.committed, p.pending = false, p.mine, p.pending+1
	return "ok"
}

func (p *plain) abort() { p.isOpen = false }

func (p *plain) sync() string {
	p.lasts, p.waits, p.pending = p.committed, make([]bool, len(p.lasts)), 0
	return "ok"
}

func (p *plain) read() string {
	if p.isOpen {
		return p.mine
	}
	return p.committed
}

// walker goes on with a log and a plain one, and tells where they part.
type walker struct {
	t     *testing.T
	dice  *rand.Rand
	disk  *block.Disk
	log   *Log
	txn   *Txn // the last one that was begun
	plain *plain
}

func said(e api.Errno) string {
	return map[api.Errno]string{api.OK: "ok", api.ErrOrder: "order", api.ErrArg: "arg", api.ErrFull: "full", api.ErrDown: "down"}[e]
}

func (w *walker) same(name, got, want string) {
	w.t.Helper()
	if got != want {
		w.t.Fatalf("%s: %s; want %s", name, got, want)
	}
}

// picks are what is left when the power goes.
func (w *walker) picks() []int {
	all := make([]int, w.dice.IntN(8))
	for i := range all {
		all[i] = w.dice.IntN(7) - 3
	}
	if w.dice.IntN(4) == 0 {
		return alike(w.dice.IntN(3))
	}
	return all
}

// mayFail makes a call in which the power may go; where it does, one of lasts is what Open may tell.
func (w *walker) mayFail(name string, call func() string, plainCall func() string, lasts ...string) {
	if w.dice.IntN(3) == 0 {
		w.disk.Arm(1+w.dice.IntN(40), w.picks()...)
	}
	got := call()
	if got != "down" {
		w.disk.Arm(0)
		w.same(name, got, plainCall())
		return
	}
	w.reopen(lasts...)
}

// reopen opens a disk whose power went; it may go again on the way.
func (w *walker) reopen(lasts ...string) {
	w.disk.On()
	for {
		if w.dice.IntN(2) == 0 {
			w.disk.Arm(1+w.dice.IntN(20), w.picks()...)
		}
		l, e := Open(w.disk)
		if e == api.OK {
			w.disk.Arm(0)
			w.log, w.txn = l, nil
			break
		}
		w.same("Open", said(e), "down")
		w.disk.On()
	}
	got := state(w.log)
	for _, want := range lasts {
		if got == want {
			w.plain = newPlain(want)
			return
		}
	}
	w.t.Fatalf("P404: Open tells %s; want one of %v", got, lasts)
}

func (w *walker) step() {
	size := len(w.plain.lasts)
	switch kind := w.dice.IntN(100); {
	case kind < 15:
		x, e := w.log.Begin()
		w.same("Begin", said(e), w.plain.begin())
		if e == api.OK {
			w.txn = x
		}
	case kind < 60 && w.txn != nil:
		c, first := byte('a'+w.dice.IntN(26)), w.dice.IntN(size+2)-1
		for n := first; n < first+1+w.dice.IntN(30); n++ {
			w.same("Write", said(w.txn.Write(n, of(c))), w.plain.write(n, c))
		}
	case kind < 80 && w.txn != nil:
		lasts := []string{w.plain.lasts}
		if w.plain.syncsFirst() {
			lasts = append(lasts, w.plain.committed)
		}
		w.mayFail("Commit", func() string { return said(w.txn.Commit()) }, w.plain.commit, lasts...)
	case kind < 84 && w.txn != nil:
		w.txn.Abort()
		w.plain.abort()
	case kind < 92:
		w.mayFail("Sync", func() string { return said(w.log.Sync()) }, w.plain.sync, w.plain.lasts, w.plain.committed)
	case kind < 95:
		w.disk.Cut(w.picks()...)
		w.reopen(w.plain.lasts)
	}
}

func (w *walker) check() {
	w.same("state", state(w.log), w.plain.committed)
	w.same("Pending", fmt.Sprint(w.log.Pending()), fmt.Sprint(w.plain.pending))
	if w.txn != nil {
		w.same("Txn.Read", read(w.txn, w.log.Blocks()), w.plain.read())
	}
	if w.txn != nil && w.plain.isOpen {
		w.same("Writes", fmt.Sprint(w.txn.Writes()), fmt.Sprint(count(w.plain.written)))
	}
}

func TestWalks(t *testing.T) {
	for seed := range uint64(60) {
		size := []int{1, 5, 80}[seed%3]
		t.Run(fmt.Sprintf("%d blocks, seed %d", size, seed), func(t *testing.T) {
			d, l := made(t, size)
			w := &walker{t: t, dice: rand.New(rand.NewPCG(seed, 4)), disk: d, log: l, plain: newPlain(strings.Repeat(".", size))}
			for range 250 {
				w.step()
				w.check()
			}
		})
	}
}

// TestSameCalls: the disk is the same, byte by byte, whenever the same calls were made.
func TestSameCalls(t *testing.T) {
	var first []byte
	for range 5 {
		d, l := made(t, 80)
		put(t, l, 0, strings.Repeat("a", 60))
		put(t, l, 70, "bcd")
		d.Arm(70, 1, 0, 0, 1, 1, 1, 0)
		l.Sync()
		if first == nil {
			first = d.Image()
		}
		if !bytes.Equal(d.Image(), first) {
			t.Fatal("P3: the same calls left another disk")
		}
	}
}
