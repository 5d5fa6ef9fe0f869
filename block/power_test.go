package block

import (
	"math"
	"slices"
	"strings"
	"testing"

	"mailbag/api"
)

func TestCutPicksByBlock(t *testing.T) {
	d := made(t, 4)
	put(t, d, 0, "a")
	put(t, d, 3, "w")
	d.Sync()
	put(t, d, 3, "xyz") // blocks go by their numbers, not by when they were written
	put(t, d, 0, "bc")
	put(t, d, 2, "m")
	for _, c := range []struct {
		picks []int
		want  string
	}{
		{nil, "a\x00\x00w"}, {[]int{}, "a\x00\x00w"}, {[]int{0, 0, 0}, "a\x00\x00w"},
		{[]int{1}, "b\x00\x00w"}, {[]int{2}, "c\x00\x00w"}, {[]int{0, 1}, "a\x00mw"}, {[]int{0, 0, 2}, "a\x00\x00y"},
		{[]int{2, 1, 3}, "c\x00mz"}, {[]int{1, 0, 1}, "b\x00\x00x"},
		{[]int{2, 1, 3, 1}, "c\x00mz"}, {[]int{0, 0, 0, 1, 2, 3}, "a\x00\x00w"},
		{[]int{3, 2, 4}, "a\x00\x00w"}, {[]int{4, 3, 5}, "b\x00mx"}, {[]int{5, 5, 7}, "c\x00mz"},
		{[]int{-1, -1, -1}, "c\x00mz"}, {[]int{-2, -2, -2}, "b\x00\x00y"}, {[]int{-3, -3, -4}, "a\x00mw"}, {[]int{-4, -4, -5}, "c\x00\x00z"},
	} {
		if got := after(t, d, c.picks...); got != c.want {
			t.Errorf("P202: Cut(%v): %q; want %q", c.picks, got, c.want)
		}
	}
}

// pickOf goes round a block's versions a step at a time, 0 being what was synced.
func pickOf(p, k int) int {
	at := 0
	for ; p > 0; p-- {
		if at++; at > k {
			at = 0
		}
	}
	for ; p < 0; p++ {
		if at--; at < 0 {
			at = k
		}
	}
	return at
}

func TestCutOfAnyPick(t *testing.T) {
	const versions = "abcde"
	for k := range len(versions) + 1 {
		d := made(t, 1)
		put(t, d, 0, "S")
		d.Sync()
		put(t, d, 0, versions[:k])
		for p := -15; p <= 15; p++ {
			want := ("S" + versions)[pickOf(p, k):][:1]
			if got := after(t, d, p); got != want {
				t.Errorf("P202: %d versions, Cut(%d): %q; want %q", k, p, got, want)
			}
		}
	}
}

func TestCutOfPicksAtTheEnds(t *testing.T) {
	d := made(t, 1)
	put(t, d, 0, "ab")
	// MaxInt is 2^63 - 1, with rest 1 of 3; MinInt is -2^63, with rest -2, and that with 3 is 1.
	for p, want := range map[int]string{math.MaxInt: "a", math.MaxInt - 1: "\x00", math.MinInt: "a", math.MinInt + 1: "b"} {
		if got := after(t, d, p); got != want {
			t.Errorf("P202: Cut(%d): %q; want %q", p, got, want)
		}
	}
}

func TestCutOfManyVersions(t *testing.T) {
	const many = 3000
	d := made(t, 2)
	for i := range many {
		put(t, d, 1, string([]byte{byte(i * 7), byte(i >> 4)}))
	}
	if d.Waiting() != 2*many {
		t.Errorf("P201: %d wait", d.Waiting())
	}
	for i := 0; i < many; i += 97 {
		want := string([]byte{0, byte(i * 7)})
		if got := after(t, d, 2*i+1); got != want {
			t.Errorf("P202: Cut(%d): %q; want %q", 2*i+1, got, want)
		}
	}
	if got := after(t, d, 2*many+1); got != "\x00\x00" {
		t.Errorf("P202: Cut(%d): %q", 2*many+1, got)
	}
}

func TestCutOfAllBlocks(t *testing.T) {
	d := made(t, api.MaxBlocks)
	picks := make([]int, api.MaxBlocks)
	want := make([]byte, api.MaxBlocks)
	for n := api.MaxBlocks - 1; n >= 0; n-- {
		put(t, d, n, "ab")
		picks[n] = n % 5
		want[n] = "\x00ab"[n%5%3]
	}
	if got := after(t, d, picks...); got != string(want) {
		t.Error("P202: a pick is not its block's")
	}
}

func TestCutTakesThePower(t *testing.T) {
	d := made(t, 2)
	put(t, d, 0, "ab")
	d.Cut(1)
	if !d.Off() || d.Waiting() != 0 || d.Writes() != 2 || letters(t, d.Image()) != "a\x00" {
		t.Errorf("P202: Cut: off is %v, %d wait, %d Writes", d.Off(), d.Waiting(), d.Writes())
	}
	was := tell(d)
	d.Cut(2, 2)
	d.Cut()
	if tell(d) != was {
		t.Error("P202: a Cut without power did something")
	}
	d.On()
	if d.Off() || read(t, d) != "a\x00" {
		t.Errorf("P202: On: off is %v, %q", d.Off(), read(t, d))
	}
	d.Cut(1)
	d.On()
	if read(t, d) != "a\x00" {
		t.Errorf("P202: a second Cut, nothing waiting: %q", read(t, d))
	}
}

func TestOnlyBlocksThatWaitTakePicks(t *testing.T) {
	for name, end := range map[string]func(d *Disk){
		"Sync": func(d *Disk) { d.Sync() },
		"Cut":  func(d *Disk) { d.Cut(1); d.On() },
	} {
		d := made(t, 3)
		put(t, d, 0, "a")
		end(d)
		put(t, d, 1, "m")
		put(t, d, 2, "z")
		d.Cut(0, 1)
		if got := letters(t, d.Image()); got != "a\x00z" {
			t.Errorf("P202: a block of which nothing waits behind %s takes a pick: %q", name, got)
		}
	}
}

func TestOnWithPower(t *testing.T) {
	d := made(t, 2)
	put(t, d, 0, "ab")
	was := tell(d)
	d.On()
	if tell(d) != was || after(t, d, 1) != "a\x00" {
		t.Error("P202: On changed a disk that had power")
	}
}

func TestImageWithoutPower(t *testing.T) {
	d := made(t, 3)
	put(t, d, 0, "a")
	d.Sync()
	put(t, d, 0, "b")
	put(t, d, 2, "yz")
	if got := letters(t, d.Image()); got != "b\x00z" {
		t.Errorf("P202: Image: %q", got)
	}
	d.Cut(0, 1)
	if got := letters(t, d.Image()); got != "a\x00y" {
		t.Errorf("P202: Image without power: %q", got)
	}
	d.On()
	if read(t, d) != "a\x00y" {
		t.Error("P202: Image without power is not what is read behind On")
	}
}

// tries is what so many Writes to block 0 answer, one behind the other: a dot for OK, else the error's word.
func tries(d *Disk, many int) string {
	var said []string
	for range many {
		if e := d.Write(0, of('t')); e != api.OK {
			said = append(said, e.Error())
		} else {
			said = append(said, ".")
		}
	}
	return strings.Join(said, " ")
}

func TestArmStrikesTheNthWrite(t *testing.T) {
	for _, c := range []struct {
		n    int
		want string
	}{
		{1, "down down down down"}, {2, ". down down down"}, {4, ". . . down"},
		{5, ". . . ."}, {math.MaxInt, ". . . ."}, {0, ". . . ."}, {-1, ". . . ."}, {math.MinInt, ". . . ."},
	} {
		d := made(t, 1)
		d.Arm(c.n)
		if got := tries(d, 4); got != c.want {
			t.Errorf("P202: Arm(%d): %s; want %s", c.n, got, c.want)
		}
		if d.Writes() != strings.Count(c.want, ".") || d.Off() != strings.Contains(c.want, "down") {
			t.Errorf("P202: Arm(%d): %d Writes, off is %v", c.n, d.Writes(), d.Off())
		}
	}
}

func TestArmCutsByItsPicks(t *testing.T) {
	for _, c := range []struct {
		picks []int
		want  string
	}{
		{nil, "a\x00\x00"}, {[]int{1, 1}, "bm\x00"}, {[]int{2}, "c\x00\x00"}, {[]int{3, -1, 1}, "am\x00"}, {[]int{-1, 2, 1}, "c\x00\x00"},
	} {
		for _, n := range []int{0, 1, 2} {
			d := made(t, 3)
			put(t, d, 0, "a")
			d.Sync()
			put(t, d, 0, "b")
			d.Arm(3, c.picks...)
			put(t, d, 1, "m")
			put(t, d, 0, "c")
			if e := d.Write(n, of('n')); e != api.ErrDown || !d.Off() || d.Waiting() != 0 || d.Writes() != 4 {
				t.Errorf("P202: the armed Write(%d): %v, %d wait, %d Writes", n, e, d.Waiting(), d.Writes())
			}
			if got := letters(t, d.Image()); got != c.want {
				t.Errorf("P202: the armed Write(%d), picks %v: %q; want %q", n, c.picks, got, c.want)
			}
		}
	}
}

func TestArmCountsOnlyWritesThatWouldBeOK(t *testing.T) {
	d := made(t, 1)
	d.Arm(2)
	wrong := func() {
		t.Helper()
		for _, e := range []api.Errno{d.Write(1, of('x')), d.Write(-1, of('x')), d.Write(0, nil), d.Write(0, make([]byte, api.Block+1))} {
			if e != api.ErrArg || d.Off() {
				t.Errorf("P202: a wrong Write of an armed disk: %v; want arg", e)
			}
		}
		d.Sync()
		d.Read(0)
	}
	wrong()
	put(t, d, 0, "a")
	wrong()
	if got := tries(d, 2); got != "down down" {
		t.Errorf("P202: %s; want down at the second Write", got)
	}
}

func TestArmGoes(t *testing.T) {
	for name, c := range map[string]struct {
		do   func(d *Disk)
		want string
	}{
		"an elder one, armed sooner":        {func(d *Disk) { d.Arm(1); d.Arm(3) }, ". . down"},
		"an elder one, armed later":         {func(d *Disk) { d.Arm(3); d.Arm(1) }, "down down down"},
		"an elder one, by 0":                {func(d *Disk) { d.Arm(1); d.Arm(0) }, ". . ."},
		"an elder one, below 0":             {func(d *Disk) { d.Arm(1); d.Arm(-5, 1) }, ". . ."},
		"a Write between":                   {func(d *Disk) { d.Arm(2); d.Write(0, of('a')); d.Arm(2) }, ". down down"},
		"On with power":                     {func(d *Disk) { d.Arm(1); d.On() }, ". . ."},
		"Cut, and On":                       {func(d *Disk) { d.Arm(1); d.Cut(); d.On() }, ". . ."},
		"armed without power, and On":       {func(d *Disk) { d.Cut(); d.Arm(1); d.On() }, ". . ."},
		"armed without power":               {func(d *Disk) { d.Cut(); d.Arm(2) }, "down down down"},
		"Cut twice, armed between, and On":  {func(d *Disk) { d.Cut(); d.Arm(2); d.Cut(); d.On() }, ". . ."},
		"its own Write, and On":             {func(d *Disk) { d.Arm(1); d.Write(0, of('a')); d.On() }, ". . ."},
		"armed behind On":                   {func(d *Disk) { d.Cut(); d.On(); d.Arm(2) }, ". down down"},
		"a Sync, which leaves it":           {func(d *Disk) { d.Arm(2); d.Sync() }, ". down down"},
		"a Read and Image, which leave it":  {func(d *Disk) { d.Arm(2); d.Read(0); d.Image(); d.Off() }, ". down down"},
		"a Twin that strikes, apart":        {func(d *Disk) { d.Arm(2); tries(d.Twin(), 2) }, ". down down"},
		"a Twin that is armed anew, apart":  {func(d *Disk) { d.Arm(2); d.Twin().Arm(1) }, ". down down"},
		"a Twin whose power goes, as apart": {func(d *Disk) { d.Arm(2); d.Twin().Cut() }, ". down down"},
	} {
		d := made(t, 1)
		c.do(d)
		if got := tries(d, 3); got != c.want {
			t.Errorf("P202: %s: %s; want %s", name, got, c.want)
		}
	}
}

func TestAnElderArmsPicksGo(t *testing.T) {
	for _, c := range []struct {
		picks []int
		want  string
	}{{nil, "\x00"}, {[]int{1}, "a"}} {
		d := made(t, 1)
		put(t, d, 0, "ab")
		d.Arm(1, 2)
		d.Arm(1, c.picks...)
		if d.Write(0, of('c')) != api.ErrDown || letters(t, d.Image()) != c.want {
			t.Errorf("P202: picks %v behind an elder Arm: %q", c.picks, letters(t, d.Image()))
		}
	}
}

func TestTwinIsArmedAsItIs(t *testing.T) {
	d := made(t, 2)
	put(t, d, 1, "ab")
	d.Arm(3, 1, 2)
	put(t, d, 0, "m")
	x := d.Twin()
	if tell(x) != tell(d) {
		t.Error("P202: a Twin is unlike its disk")
	}
	for _, disk := range []*Disk{x, d} {
		if got := tries(disk, 3); got != ". down down" || letters(t, disk.Image()) != "mb" || disk.Writes() != 4 {
			t.Errorf("P202: an armed Twin and its disk: %s, %q", got, letters(t, disk.Image()))
		}
	}
}

func TestTwinIsApart(t *testing.T) {
	d := made(t, 2)
	put(t, d, 0, "a")
	d.Sync()
	put(t, d, 0, "bcd") // three: a list that grows by doubling has spare room then
	was := tell(d)
	x, y := d.Twin(), d.Twin()
	put(t, x, 0, "x")
	put(t, x, 1, "m")
	put(t, y, 0, "y")
	if tell(d) != was || read(t, x) != "xm" || read(t, y) != "y\x00" {
		t.Error("P202: a Twin's Writes are its disk's")
	}
	if after(t, x, 4, 1) != "xm" || after(t, y, 4) != "y\x00" || after(t, d, 3) != "d\x00" {
		t.Error("P202: a Twin's versions are its disk's")
	}
	x.Sync()
	y.Cut(1)
	if tell(d) != was || after(t, d, 0) != "a\x00" || after(t, d, 1) != "b\x00" {
		t.Error("P202: a Twin's Sync and Cut are its disk's")
	}
	z := y.Twin()
	if !z.Off() || tell(z) != tell(y) {
		t.Error("P202: a Twin of a disk without power is unlike it")
	}
	z.On()
	if !y.Off() || read(t, z) != "b\x00" {
		t.Error("P202: a Twin's On is its disk's")
	}
	put(t, d, 0, "g")
	d.Sync()
	if read(t, x) != "xm" || letters(t, y.Image()) != "b\x00" {
		t.Error("P202: a disk's Writes are its Twin's")
	}
}

func TestTheSameCallsAnswerTheSame(t *testing.T) {
	var first told
	for run := range 20 {
		d := made(t, 64)
		for n := range 64 {
			put(t, d, n*37%64, "abc")
		}
		d.Cut(slices.Repeat([]int{0, 1, 2, 3, 5, -1}, 11)...)
		if run == 0 {
			first = tell(d)
		}
		if tell(d) != first {
			t.Fatal("P3: the same calls answer otherwise")
		}
	}
}
