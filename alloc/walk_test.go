package alloc

import (
	"fmt"
	"maps"
	"math/rand/v2"
	"testing"

	"mailbag/api"
	"mailbag/block"
	"mailbag/wal"
)

// plain is a pool as a set of the numbers that are taken.
type plain map[int]bool

func (s plain) least(p Pool) (int, api.Errno) {
	for n := p.First; n < p.First+p.N; n++ {
		if !s[n] {
			return n, api.OK
		}
	}
	return 0, api.ErrFull
}

func inside(p Pool, n int) bool { return n >= p.First && n < p.First+p.N }

// walker goes on with some pools of a log, and tells where they part from plain ones.
type walker struct {
	t         *testing.T
	dice      *rand.Rand
	disk      *block.Disk
	log       *wal.Log
	txn       *wal.Txn
	pools     []Pool
	mine      []plain // as the transaction has them
	committed []plain
	lasts     []plain
}

func copies(all []plain) []plain {
	var out []plain
	for _, s := range all {
		out = append(out, maps.Clone(s))
	}
	return out
}

func (w *walker) take(k int) {
	want, e := w.mine[k].least(w.pools[k])
	takes(w.t, w.pools[k], w.txn, want, e)
	if e == api.OK {
		w.mine[k][want] = true
	}
}

func (w *walker) give(k, n int) {
	want := api.OK
	if !w.mine[k][n] {
		want = api.ErrArg
	}
	gives(w.t, w.pools[k], w.txn, n, want)
	delete(w.mine[k], n)
}

// end ends the transaction in one of its ways, and begins another one.
func (w *walker) end() {
	switch w.dice.IntN(4) {
	case 0:
		w.txn.Abort()
	case 1:
		commit(w.t, w.txn)
		w.committed = copies(w.mine)
		w.log.Sync()
		w.lasts = copies(w.committed)
	case 2:
		w.log = again(w.t, w.disk, w.dice.IntN(3), w.dice.IntN(3))
		w.committed = copies(w.lasts)
	default:
		commit(w.t, w.txn)
		w.committed = copies(w.mine)
	}
	w.mine = copies(w.committed)
	w.txn = begin(w.t, w.log)
}

func (w *walker) step() {
	k := w.dice.IntN(len(w.pools))
	p := w.pools[k]
	n := p.First - 2 + w.dice.IntN(p.N+4)
	switch kind := w.dice.IntN(100); {
	case kind < 50:
		for range 1 + w.dice.IntN(p.N/4+2) {
			w.take(k)
		}
	case kind < 80:
		for i := range 1 + w.dice.IntN(p.N/8+2) {
			w.give(k, n+i)
		}
	case kind < 82:
		clears(w.t, p, w.txn, api.OK)
		w.mine[k] = plain{}
	case kind < 90:
		w.end()
	}
}

func (w *walker) check() {
	w.t.Helper()
	for k, p := range w.pools {
		free(w.t, p, w.txn, p.N-len(w.mine[k]), api.OK)
		for range 5 {
			n, want := p.First-3+w.dice.IntN(p.N+6), api.OK
			if !inside(p, n) {
				want = api.ErrArg
			}
			has(w.t, p, w.txn, n, w.mine[k][n], want)
		}
	}
	if w.t.Failed() {
		w.t.FailNow()
	}
}

func TestWalks(t *testing.T) {
	for seed := range uint64(12) {
		pools := []Pool{{0, 0, 1}, {1, 5, 13}, {2, 18, 64}, {3, 0, 100}}
		steps := 400
		if seed%4 == 3 {
			pools, steps = []Pool{{0, 0, 4200}, {2, 4200, 30}, {3, 1 << 30, 4097}}, 60
		}
		t.Run(fmt.Sprint("seed ", seed), func(t *testing.T) {
			d, l := made(t, 6)
			w := &walker{t: t, dice: rand.New(rand.NewPCG(seed, 6)), disk: d, log: l, txn: begin(t, l), pools: pools}
			for range pools {
				w.lasts = append(w.lasts, plain{})
			}
			w.committed, w.mine = copies(w.lasts), copies(w.lasts)
			for range steps {
				w.step()
				w.check()
			}
		})
	}
}

func TestSameCallsAnswerTheSame(t *testing.T) {
	for range 3 {
		p := Pool{Map: 0, First: 3, N: 5}
		x := fresh(t, 1)
		told := ""
		for range 6 {
			n, e := p.Take(x)
			told += fmt.Sprint(n, e, " ")
		}
		told += fmt.Sprint(p.Give(x, 4), p.Give(x, 4), " ")
		is, e := p.Has(x, 4)
		n, e2 := p.Free(x)
		told += fmt.Sprint(is, e, n, e2, p.Clear(x))
		if want := "3 ok 4 ok 5 ok 6 ok 7 ok 0 full ok arg false ok 1 ok ok"; told != want {
			t.Errorf("P3: %s; want %s", told, want)
		}
	}
}
