package wal

import (
	"bytes"

	"mailbag/api"
)

// Txn is a transaction. It is open while its log has it as the one that is.
type Txn struct {
	log    *Log
	blocks map[int][]byte // what it has written and the log has not; at its end: none
	writes int
}

// Read is block n as this transaction has it, else as it was committed last.
func (t *Txn) Read(n int) ([]byte, api.Errno) {
	if t.log.disk.Off() {
		return nil, api.ErrDown
	}
	if b, ok := t.blocks[n]; ok {
		return bytes.Clone(b), api.OK
	}
	return t.log.Read(n)
}

// Write changes block n, for this transaction alone.
func (t *Txn) Write(n int, b []byte) api.Errno {
	if t.log.disk.Off() {
		return api.ErrDown
	}
	if !t.log.has(n) || len(b) != api.Block {
		return api.ErrArg
	}
	if !t.isOpen() {
		return api.ErrOrder
	}
	if _, ok := t.blocks[n]; !ok {
		if t.writes == room {
			return api.ErrFull
		}
		t.writes++
	}
	t.blocks[n] = bytes.Clone(b)
	return api.OK
}

// Writes is how many unlike blocks it has written; one that was aborted has none.
func (t *Txn) Writes() int { return t.writes }

// Commit makes what it has written the log's. Where the log has no room for it
// beside what waits there for a Sync, that Sync is done first.
func (t *Txn) Commit() api.Errno {
	if !t.isOpen() {
		return api.ErrOrder
	}
	defer t.end()
	l := t.log
	if l.disk.Off() {
		return api.ErrDown
	}
	if t.together() > room {
		if e := l.Sync(); e != api.OK {
			return e
		}
	}
	for n, b := range t.blocks {
		l.blocks[n] = b
	}
	l.pending++
	return api.OK
}

// Abort is nothing for one that is at its end: what was committed stays.
func (t *Txn) Abort() {
	if !t.isOpen() {
		return
	}
	defer t.end()
	t.writes = 0
}

func (t *Txn) isOpen() bool { return t.log.open == t }

// end lets another one begin, and lets go of what is the log's now, or nobody's.
func (t *Txn) end() {
	t.log.open = nil
	for n := range t.blocks {
		delete(t.blocks, n)
	}
}

// together is how many unlike blocks it and those that wait for a Sync have written.
func (t *Txn) together() int {
	count := len(t.log.blocks)
	for n := range t.blocks {
		if _, ok := t.log.blocks[n]; !ok {
			count++
		}
	}
	return count
}
