package alloc

import (
	"bytes"
	"math"
	"slices"
	"testing"

	"mailbag/api"
)

// TestTakeAll takes all numbers of a pool, and one more: over the edges of bytes and of blocks, and at N that are no multiple of 8.
func TestTakeAll(t *testing.T) {
	for _, n := range []int{1, 2, 7, 8, 9, 15, 16, 17, 100, 4095, 4096, 4097, 5000, 8192, 8193} {
		p := Pool{Map: 2, First: 1000, N: n}
		x := fresh(t, 10)
		free(t, p, x, n, api.OK)
		takeMany(t, p, x, 1000, n-1)
		free(t, p, x, 1, api.OK)
		has(t, p, x, 1000+n-1, false, api.OK)
		takes(t, p, x, 1000+n-1, api.OK)
		has(t, p, x, 1000+n-1, true, api.OK)
		free(t, p, x, 0, api.OK)
		was := image(t, x, 10)
		for range 2 {
			takes(t, p, x, 0, api.ErrFull)
		}
		if free(t, p, x, 0, api.OK); !bytes.Equal(image(t, x, 10), was) {
			t.Errorf("P5: a Take that was refused changed the blocks, N %d", n)
		}
	}
}

// TestGreatestPool has its map up to the log's end, and the greatest numbers that there may be.
func TestGreatestPool(t *testing.T) {
	p := Pool{Map: 1, First: 1 << 30, N: api.MaxBlocks}
	x := fresh(t, 5)
	for i := range p.Maps() {
		write(t, x, 1+i, of(0xFF))
	}
	free(t, p, x, 0, api.OK)
	takes(t, p, x, 0, api.ErrFull)
	for _, i := range []int{0, 7, 8, 4095, 4096, 8191, 8192, 12287, 12288, api.MaxBlocks - 1} {
		gives(t, p, x, 1<<30+i, api.OK)
		has(t, p, x, 1<<30+i, false, api.OK)
		free(t, p, x, 1, api.OK)
		takes(t, p, x, 1<<30+i, api.OK)
		has(t, p, x, 1<<30+i, true, api.OK)
		takes(t, p, x, 0, api.ErrFull)
	}
	has(t, p, x, 1<<30+api.MaxBlocks, false, api.ErrArg)
	gives(t, p, x, 1<<30+api.MaxBlocks, api.ErrArg)
	clears(t, p, x, api.OK)
	free(t, p, x, api.MaxBlocks, api.OK)
	takes(t, p, x, 1<<30, api.OK)
}

// TestTakeTheLeast has holes on both sides of the edges of bytes and of blocks.
func TestTakeTheLeast(t *testing.T) {
	p := Pool{Map: 0, First: 10, N: 9000}
	x := fresh(t, 3)
	for i := range 3 {
		write(t, x, i, of(0xFF))
	}
	holes := []int{0, 7, 8, 9, 15, 16, 4094, 4095, 4096, 4097, 4104, 8191, 8192, 8999}
	for _, i := range slices.Backward(holes) {
		gives(t, p, x, 10+i, api.OK)
	}
	free(t, p, x, len(holes), api.OK)
	for _, i := range holes {
		takes(t, p, x, 10+i, api.OK)
	}
	takes(t, p, x, 0, api.ErrFull)
}

// TestWhereBitsStand holds the blocks of a map against chapter 5: bit 0 is First, the lowest of its byte.
func TestWhereBitsStand(t *testing.T) {
	p := Pool{Map: 1, First: 50, N: 4106}
	x := fresh(t, 4)
	want := make([]byte, 4*api.Block)
	same := func(name string) {
		t.Helper()
		if !bytes.Equal(image(t, x, 4), want) {
			t.Errorf("P601: the map's blocks behind %s are not as the bits say", name)
		}
	}
	takeMany(t, p, x, 50, 11)
	want[api.Block], want[api.Block+1] = 0xFF, 0x07
	same("eleven Takes")
	gives(t, p, x, 53, api.OK)
	gives(t, p, x, 58, api.OK)
	want[api.Block], want[api.Block+1] = 0xF7, 0x06
	same("two Gives")
	for i := range api.Block {
		want[api.Block+i] = 0xFF
	}
	write(t, x, 1, of(0xFF))
	takeMany(t, p, x, 50+4096, 10)
	want[2*api.Block], want[2*api.Block+1] = 0xFF, 0x03
	same("Takes over the edge of a block")
	takes(t, p, x, 0, api.ErrFull)
	gives(t, p, x, 50+4095, api.OK)
	want[2*api.Block-1] = 0x7F
	same("a Give of a block's last bit")
	for i, b := range [][]byte{of(0), of(0)} {
		b[3] = 0x20
		write(t, x, 1+i, b)
	}
	has(t, p, x, 50+29, true, api.OK)
	has(t, p, x, 50+28, false, api.OK)
	has(t, p, x, 50+30, false, api.OK)
	free(t, p, x, 4105, api.OK) // bit 29 of the second block is none of the pool's
}

// TestBitsBehindTheLast are no numbers of the pool, whatever they are.
func TestBitsBehindTheLast(t *testing.T) {
	for _, n := range []int{1, 3, 8, 9, 4095, 4097, 5001} {
		p := Pool{Map: 0, First: 0, N: n}
		x := fresh(t, 2)
		full := fresh(t, 2)
		for i := range p.Maps() {
			b := of(0xFF)
			for bit := range min(n-4096*i, 4096) {
				b[bit/8] &^= 1 << (bit % 8)
			}
			write(t, x, i, b)
			for k := range b {
				b[k] ^= 0xFF
			}
			write(t, full, i, b)
		}
		free(t, p, x, n, api.OK)
		takes(t, p, x, 0, api.OK)
		gives(t, p, x, n, api.ErrArg)
		has(t, p, x, n, false, api.ErrArg)
		free(t, p, full, 0, api.OK)
		takes(t, p, full, 0, api.ErrFull)
		gives(t, p, full, n-1, api.OK)
		takes(t, p, full, n-1, api.OK)
	}
}

func TestGive(t *testing.T) {
	p := Pool{Map: 3, First: 20, N: 13}
	x := fresh(t, 4)
	for _, n := range []int{20, 26, 27, 28, 32} {
		gives(t, p, x, n, api.ErrArg) // all are free
	}
	takeMany(t, p, x, 20, 13)
	for _, n := range []int{20, 27, 28, 32} {
		was := image(t, x, 4)
		for _, beyond := range []int{19, 33, 20 - 13, 20 + 4096, 0, -1, -20, math.MinInt, math.MinInt + 20, math.MaxInt, math.MaxInt - 20} {
			gives(t, p, x, beyond, api.ErrArg)
		}
		if !bytes.Equal(image(t, x, 4), was) {
			t.Error("P5: a Give that was refused changed the blocks")
		}
		gives(t, p, x, n, api.OK)
		has(t, p, x, n, false, api.OK)
		free(t, p, x, 1, api.OK)
		was = image(t, x, 4)
		gives(t, p, x, n, api.ErrArg)
		if free(t, p, x, 1, api.OK); !bytes.Equal(image(t, x, 4), was) {
			t.Error("P5: a Give of one that is free changed the blocks")
		}
		takes(t, p, x, n, api.OK)
	}
}

func TestHas(t *testing.T) {
	p := Pool{Map: 0, First: 1, N: 4099}
	x := fresh(t, 2)
	has(t, p, x, 1, false, api.OK)
	has(t, p, x, 4099, false, api.OK)
	takeMany(t, p, x, 1, 4097)
	for _, c := range []struct {
		n  int
		is bool
	}{{1, true}, {2, true}, {8, true}, {9, true}, {4096, true}, {4097, true}, {4098, false}, {4099, false}} {
		has(t, p, x, c.n, c.is, api.OK)
	}
	for _, n := range []int{0, 4100, -1, 4096 + 4097, 8193, math.MinInt, math.MinInt + 1, math.MaxInt - 1, math.MaxInt} {
		has(t, p, x, n, false, api.ErrArg)
	}
}

func TestClear(t *testing.T) {
	for _, n := range []int{1, 9, 4096, 4097, api.MaxBlocks} {
		p := Pool{Map: 2, First: 5, N: n}
		x := fresh(t, 8)
		want := make([]byte, 8*api.Block)
		for i := range 8 {
			write(t, x, i, of(0xFF))
			if i < 2 || i >= 2+p.Maps() {
				copy(want[i*api.Block:], of(0xFF))
			}
		}
		free(t, p, x, 0, api.OK)
		for range 2 {
			clears(t, p, x, api.OK)
			free(t, p, x, n, api.OK)
			has(t, p, x, 5, false, api.OK)
			has(t, p, x, 5+n-1, false, api.OK)
		}
		if !bytes.Equal(image(t, x, 8), want) {
			t.Errorf("P601: Clear of %v left bits, or changed blocks that are none of the map's", p)
		}
		takes(t, p, x, 5, api.OK)
	}
}

func TestFree(t *testing.T) {
	for _, n := range []int{1, 5, 8, 13, 4099} {
		p := Pool{Map: 0, First: 0, N: n}
		x := fresh(t, 2)
		free(t, p, x, n, api.OK)
		for i := range min(n, 20) {
			takes(t, p, x, i, api.OK)
			free(t, p, x, n-i-1, api.OK)
		}
		gives(t, p, x, 0, api.OK)
		free(t, p, x, n-min(n, 20)+1, api.OK)
	}
}

// TestPoolsAreApart has two pools in neighbouring blocks, and two of the same numbers.
func TestPoolsAreApart(t *testing.T) {
	one, two := Pool{Map: 0, First: 0, N: 4100}, Pool{Map: 2, First: 4100, N: 4100}
	same := Pool{Map: 4, First: 0, N: 4100}
	x := fresh(t, 6)
	takeMany(t, one, x, 0, 4100)
	free(t, two, x, 4100, api.OK)
	takeMany(t, two, x, 4100, 5)
	gives(t, one, x, 4099, api.OK)
	gives(t, two, x, 4099, api.ErrArg)
	gives(t, one, x, 4100, api.ErrArg)
	free(t, two, x, 4095, api.OK)
	free(t, one, x, 1, api.OK)
	has(t, same, x, 7, false, api.OK)
	takes(t, same, x, 0, api.OK)
	clears(t, one, x, api.OK)
	free(t, two, x, 4095, api.OK)
	has(t, two, x, 4104, true, api.OK)
	free(t, same, x, 4099, api.OK)
	clears(t, two, x, api.OK)
	free(t, same, x, 4099, api.OK)
	has(t, same, x, 0, true, api.OK)
	free(t, one, x, 4100, api.OK)
}
