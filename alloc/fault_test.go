package alloc

import (
	"bytes"
	"math"
	"testing"

	"mailbag/api"
	"mailbag/wal"
)

// nowhere are pools that are not Right, however many blocks a log may have.
var nowhere = []Pool{
	{}, {Map: -1, N: 1}, {Map: math.MinInt, N: 1}, {First: -1, N: 1}, {First: 1<<30 + 1, N: 1}, {First: math.MaxInt, N: 1}, {First: math.MinInt, N: 1},
	{N: -1}, {N: api.MaxBlocks + 1}, {N: math.MaxInt}, {N: math.MinInt}, {Map: math.MaxInt, N: 1}, {Map: math.MaxInt - 1, N: 1}, {Map: math.MaxInt - 2, N: 4097},
	{Map: api.MaxBlocks - own, N: 1}, {Map: api.MaxBlocks - own - 1, N: 4097}, {Map: api.MaxBlocks, N: 1},
	{First: math.MinInt, N: math.MaxInt}, {First: math.MaxInt, N: math.MaxInt}, {Map: -1, First: -1, N: -1}, {First: -5, N: 20},
}

// tooFar are pools whose map ends behind a log of ten blocks, and not behind a greater one.
var tooFar = []Pool{{Map: 10, N: 1}, {Map: 9, N: 4097}, {Map: 7, N: api.MaxBlocks}, {Map: 9, N: api.MaxBlocks}, {Map: 11, N: 8}, {Map: 1000, First: 3, N: 9}}

// allAre holds each call of a pool to one error; n is of the pool.
func allAre(t *testing.T, p Pool, x *wal.Txn, n int, want api.Errno) {
	t.Helper()
	clears(t, p, x, want)
	if got, e := p.Take(x); got != 0 || e != want {
		t.Errorf("P601: Take of %v: %d, %v; want 0, %v", p, got, e, want)
	}
	gives(t, p, x, n, want)
	has(t, p, x, n, false, want)
	free(t, p, x, 0, want)
}

// refused holds a pool that is not Right to ErrArg, for numbers in it and around it.
func refused(t *testing.T, p Pool, x *wal.Txn) {
	t.Helper()
	for _, n := range []int{0, -1, 1, p.First, p.First - 1, p.First + 1, p.First + p.N - 1, p.First + p.N, math.MinInt, math.MaxInt} {
		allAre(t, p, x, n, api.ErrArg)
	}
}

func TestPoolsThatAreNotRight(t *testing.T) {
	for _, p := range append(nowhere, tooFar...) {
		if p.Right(10) {
			t.Errorf("P601: %v is Right", p)
		}
		_, l := made(t, 10)
		x := begin(t, l)
		for n := range 10 {
			write(t, x, n, of(0xA5))
		}
		was := image(t, x, 10)
		refused(t, p, x)
		if !bytes.Equal(image(t, x, 10), was) || x.Writes() != 10 {
			t.Errorf("P5: calls of %v that were refused changed something", p)
		}
		x.Commit()
		refused(t, p, x)
		x = begin(t, l)
		refused(t, p, x)
		if x.Writes() != 0 {
			t.Errorf("P5: calls of %v that were refused wrote", p)
		}
	}
}

// TestNotRightWithoutPower: ErrArg is ahead of what t tells, as far as it can be known without t.
func TestNotRightWithoutPower(t *testing.T) {
	d, l := made(t, 10)
	x := begin(t, l)
	d.Cut()
	for _, p := range nowhere {
		refused(t, p, x)
	}
}

func TestNumbersOfNoPoolWithoutPower(t *testing.T) {
	d, l := made(t, 10)
	x := begin(t, l)
	d.Cut()
	p := Pool{Map: 0, First: 5, N: 10}
	for _, n := range []int{4, 15, -1, math.MinInt, math.MaxInt} {
		gives(t, p, x, n, api.ErrArg)
		has(t, p, x, n, false, api.ErrArg)
	}
}

func TestWithoutPower(t *testing.T) {
	p := Pool{Map: 1, First: 5, N: 5000}
	d, l := made(t, 10)
	x := begin(t, l)
	takeMany(t, p, x, 5, 3)
	d.Cut()
	for _, n := range []int{5, 7, 8, 5004} {
		allAre(t, p, x, n, api.ErrDown)
	}
	x.Commit()
	allAre(t, p, x, 5, api.ErrDown)
}

// TestAtItsEnd: a transaction at its end is read, and not written.
func TestAtItsEnd(t *testing.T) {
	for name, end := range map[string]func(x *wal.Txn){"Commit": func(x *wal.Txn) { x.Commit() }, "Abort": (*wal.Txn).Abort} {
		p, full := Pool{Map: 1, First: 5, N: 5000}, Pool{Map: 3, First: 0, N: 2}
		_, l := made(t, 10)
		x := begin(t, l)
		takeMany(t, p, x, 5, 4)
		takeMany(t, full, x, 0, 2)
		x.Commit()
		x = begin(t, l)
		end(x)
		clears(t, p, x, api.ErrOrder)
		takes(t, p, x, 0, api.ErrOrder)
		gives(t, p, x, 6, api.ErrOrder)
		gives(t, p, x, 9, api.ErrArg)
		gives(t, p, x, 4, api.ErrArg)
		has(t, p, x, 8, true, api.OK)
		has(t, p, x, 9, false, api.OK)
		free(t, p, x, 4996, api.OK)
		takes(t, full, x, 0, api.ErrFull)
		if b, _ := l.Read(1); b[0] != 0x0F {
			t.Errorf("P5: calls behind %s changed the map", name)
		}
		clears(t, Pool{Map: 7, N: 1}, x, api.ErrOrder) // its map is bytes 0, and would stay so
	}
}

// packed is a transaction that has written count blocks from 10 on; before has the calls ahead of them.
func packed(t *testing.T, count int, before func(x *wal.Txn)) *wal.Txn {
	t.Helper()
	x := fresh(t, 100)
	before(x)
	for i := range count {
		write(t, x, 10+i, of('x'))
	}
	return x
}

func TestFullTransaction(t *testing.T) {
	for _, n := range []int{8, 4096, 4097, api.MaxBlocks} {
		p := Pool{Map: 1, First: 3, N: n}
		x := packed(t, 63, func(*wal.Txn) {})
		clears(t, p, x, api.ErrFull)
		takes(t, p, x, 0, api.ErrFull)
		gives(t, p, x, 3, api.ErrArg)
		has(t, p, x, 3, false, api.OK)
		free(t, p, x, n, api.OK)
		if x.Writes() != 63 || !bytes.Equal(image(t, x, 10), make([]byte, 10*api.Block)) {
			t.Error("P5: a call that was refused changed something")
		}
		if e := x.Commit(); e != api.OK {
			t.Errorf("P5: Commit behind calls that were refused: %v", e)
		}
	}
}

// TestGiveInAFullTransaction has numbers that were taken by an elder one.
func TestGiveInAFullTransaction(t *testing.T) {
	_, l := made(t, 100)
	p := Pool{Map: 0, First: 0, N: 8}
	x := begin(t, l)
	takeMany(t, p, x, 0, 3)
	x.Commit()
	x = begin(t, l)
	for i := range 63 {
		write(t, x, 10+i, of('x'))
	}
	gives(t, p, x, 1, api.ErrFull)
	gives(t, p, x, 3, api.ErrArg)
	has(t, p, x, 1, true, api.OK)
	free(t, p, x, 5, api.OK)
	clears(t, p, x, api.ErrFull)
	free(t, p, x, 5, api.OK)
}

// TestNoRoomForAllOfClear: where some of the map's blocks find room and others do not, all stay as they were.
func TestNoRoomForAllOfClear(t *testing.T) {
	p := Pool{Map: 1, First: 0, N: api.MaxBlocks}
	for written := range 3 { // how many of the map's blocks the transaction has already
		for others := 60 - written; others <= 63-written; others++ {
			_, l := made(t, 100)
			x := begin(t, l)
			for i := range 4 {
				write(t, x, 1+i, of(0x11))
			}
			x.Commit()
			x = begin(t, l)
			for i := range written {
				write(t, x, 4-i, of(0x33))
			}
			for i := range others {
				write(t, x, 10+i, of('x'))
			}
			was := image(t, x, 100)
			if others+4 <= 63 {
				clears(t, p, x, api.OK)
				free(t, p, x, api.MaxBlocks, api.OK)
				continue
			}
			clears(t, p, x, api.ErrFull)
			if !bytes.Equal(image(t, x, 100), was) {
				t.Errorf("P5: a Clear without room changed the blocks: %d written, %d others", written, others)
			}
			if e := x.Commit(); e != api.OK || !bytes.Equal(image(t, x, 100), was) {
				t.Errorf("P5: Commit behind a Clear without room: %v", e)
			}
		}
	}
}

// TestRoomThatIsJustEnough: a block that was written already needs no more room; Take and Give write one, Has and Free none.
func TestRoomThatIsJustEnough(t *testing.T) {
	p := Pool{Map: 1, First: 0, N: 4097}
	x := packed(t, 61, func(x *wal.Txn) { clears(t, p, x, api.OK) })
	takes(t, p, x, 0, api.OK)
	clears(t, p, x, api.OK)
	takeMany(t, p, x, 0, 4097)
	gives(t, p, x, 4096, api.OK)
	gives(t, p, x, 0, api.OK)
	free(t, p, x, 2, api.OK)

	x = packed(t, 62, func(*wal.Txn) {})
	has(t, p, x, 0, false, api.OK)
	free(t, p, x, 4097, api.OK)
	gives(t, p, x, 0, api.ErrArg)
	if x.Writes() != 62 {
		t.Errorf("P601: Has, Free or a Give that was refused wrote: %d blocks", x.Writes())
	}
	takeMany(t, p, x, 0, 4096)
	gives(t, p, x, 4095, api.OK)
	takes(t, p, x, 4095, api.OK)
	takes(t, p, x, 0, api.ErrFull) // 4096 is free, but its block finds no room
	free(t, p, x, 1, api.OK)
	if x.Writes() != 63 {
		t.Errorf("P601: Take and Give wrote more than their block: %d blocks", x.Writes())
	}
}
