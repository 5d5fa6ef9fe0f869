package inode

import (
	"math"
	"math/rand/v2"
	"testing"

	"mailbag/api"
)

// all is how many blocks the greatest file has.
const all = 8 + 128 + 128*128

func TestNames(t *testing.T) {
	if None != 0 || File != 1 || Dir != 2 || Per != 128 {
		t.Errorf("P701: None %d, File %d, Dir %d, Per %d", None, File, Dir, Per)
	}
	if Per*4 != api.Block || len(Node{}.Direct) != api.Direct {
		t.Error("P702: a block of numbers has Per of four bytes each; Direct has 8")
	}
}

func stands(t *testing.T, i int, want Place, e api.Errno) {
	t.Helper()
	if p, got := Where(i); p != want || got != e {
		t.Errorf("P702: Where(%d): %v, %v; want %v, %v", i, p, got, want, e)
	}
}

func TestWhereAtTheEdges(t *testing.T) {
	for _, x := range []struct {
		i    int
		want Place
	}{
		{0, Place{}}, {1, Place{A: 1}}, {7, Place{A: 7}},
		{8, Place{Level: 1}}, {9, Place{Level: 1, A: 1}}, {8 + Per - 1, Place{Level: 1, A: 127}},
		{8 + Per, Place{Level: 2}}, {8 + Per + 1, Place{Level: 2, B: 1}}, {8 + Per + 127, Place{Level: 2, B: 127}},
		{8 + 2*Per, Place{Level: 2, A: 1}}, {8 + 3*Per - 1, Place{Level: 2, A: 1, B: 127}}, {8 + 3*Per, Place{Level: 2, A: 2}},
		{all - Per - 1, Place{Level: 2, A: 126, B: 127}}, {all - Per, Place{Level: 2, A: 127}}, {all - 1, Place{Level: 2, A: 127, B: 127}},
	} {
		stands(t, x.i, x.want, api.OK)
	}
}

// TestWhereOfAll counts the places up, one behind the other.
func TestWhereOfAll(t *testing.T) {
	i := 0
	next := func(p Place) {
		stands(t, i, p, api.OK)
		i++
	}
	for a := range 8 {
		next(Place{A: a})
	}
	for a := range 128 {
		next(Place{Level: 1, A: a})
	}
	for a := range 128 {
		for b := range 128 {
			next(Place{Level: 2, A: a, B: b})
		}
	}
	stands(t, i, Place{}, api.ErrArg)
}

func TestWhereOfNoBlock(t *testing.T) {
	for _, i := range []int{-1, -8, -all, math.MinInt, math.MinInt + 1, all, all + 1, Most(), 1 << 31, 1 << 32, 1<<32 + 5, math.MaxInt - 1, math.MaxInt} {
		stands(t, i, Place{}, api.ErrArg)
	}
}

func TestMost(t *testing.T) {
	if Most() != 8458240 || Most() != most {
		t.Errorf("P702: Most is %d; want %d", Most(), most)
	}
}

func counts(t *testing.T, size, blocks, inner int) {
	t.Helper()
	if got := Blocks(size); got != blocks {
		t.Errorf("P702: Blocks(%d) is %d; want %d", size, got, blocks)
	}
	if got := Inner(size); got != inner {
		t.Errorf("P702: Inner(%d) is %d; want %d", size, got, inner)
	}
	if got := All(size); got != blocks+inner {
		t.Errorf("P702: All(%d) is %d; want %d", size, got, blocks+inner)
	}
}

func TestCountsAtTheEdges(t *testing.T) {
	const near = (8 + Per) * 512
	for _, x := range []struct{ size, blocks, inner int }{
		{0, 0, 0}, {1, 1, 0}, {511, 1, 0}, {512, 1, 0}, {513, 2, 0}, {1024, 2, 0}, {1025, 3, 0},
		{8*512 - 1, 8, 0}, {8 * 512, 8, 0}, {8*512 + 1, 9, 1}, {9 * 512, 9, 1}, {9*512 + 1, 10, 1},
		{near - 1, 136, 1}, {near, 136, 1}, {near + 1, 137, 3}, {near + 512, 137, 3}, {near + 513, 138, 3},
		{near + Per*512, 264, 3}, {near + Per*512 + 1, 265, 4},
		{most - Per*512, all - Per, 129}, {most - Per*512 + 1, all - Per + 1, 130}, {most - 1, all, 130}, {most, all, 130},
	} {
		counts(t, x.size, x.blocks, x.inner)
	}
}

// TestEachBlockOfLevel2: the last byte that fits into the blocks that there are, and one more.
func TestEachBlockOfLevel2(t *testing.T) {
	for a := range 128 {
		first := 8 + Per + a*Per // the first block that stands there
		inner := 2 + a
		if a == 0 {
			inner = 1 // without level 2 there is no Two
		}
		counts(t, first*512, first, inner)
		counts(t, first*512+1, first+1, 3+a)
		counts(t, (first+Per)*512, first+Per, 3+a)
	}
}

func TestCountsOfNoSize(t *testing.T) {
	for _, size := range []int{-1, -512, -most, math.MinInt, math.MinInt + 1, most + 1, most + 512, 1 << 31, 1 << 32, 1<<32 + 512, math.MaxInt - 511, math.MaxInt - 1, math.MaxInt} {
		counts(t, size, 0, 0)
	}
}

// plainly counts the blocks of numbers by the places of all of a file's blocks.
func plainly(blocks int) int {
	seen := map[Place]int{}
	for i := range blocks {
		switch {
		case i < 8:
		case i < 8+128:
			seen[Place{Level: 1}]++
		default:
			seen[Place{Level: 2}]++
			seen[Place{Level: 3, A: (i - 8 - 128) / 128}]++
		}
	}
	return len(seen)
}

// TestCountsAgainstAPlainCount: One has its place in each file of level 2, too.
func TestCountsAgainstAPlainCount(t *testing.T) {
	sizes := []int{}
	for blocks := range 600 {
		sizes = append(sizes, blocks*512+1, blocks*512+511, blocks*512+512)
	}
	r := rand.New(rand.NewPCG(7, 3))
	for range 200 {
		sizes = append(sizes, r.IntN(most+1))
	}
	for _, size := range sizes {
		blocks := 0
		for blocks*512 < size {
			blocks++
		}
		counts(t, size, blocks, plainly(blocks))
	}
}

// TestCountsMatchPlaces: the last block of a file is the last that Where tells of it.
func TestCountsMatchPlaces(t *testing.T) {
	for i := range all {
		p, _ := Where(i)
		want := []int{0, 1, 3 + p.A}[p.Level]
		if got := Inner(i*512 + 1); got != want || Blocks(i*512+1) != i+1 {
			t.Fatalf("P702: a file that ends in block %d: Blocks %d, Inner %d; want %d", i, Blocks(i*512+1), got, want)
		}
	}
}
