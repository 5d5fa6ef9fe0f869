package block

import (
	"bytes"
	"slices"
	"testing"

	"mailbag/api"
)

// spoil changes all of b, its spare room too.
func spoil(b []byte) {
	for i := range b[:cap(b)] {
		b[:cap(b)][i] ^= 0xA5
	}
}

// roomy is a copy of l with spare room behind it, all of which holds c.
func roomy[T any](l []T, c T) []T {
	return append(slices.Clone(l), slices.Repeat([]T{c}, 5)...)[:len(l)]
}

// full is a copy of l, its spare room too.
func full[T any](l []T) []T { return slices.Clone(l[:cap(l)]) }

func TestWriteLeavesWhatItIsHanded(t *testing.T) {
	d := made(t, 1)
	for _, sync := range []bool{false, true} {
		b := roomy(of('a'), 'r')
		was := full(b)
		if d.Write(0, b) != api.OK {
			t.Fatal("P201: Write")
		}
		if sync {
			d.Sync()
		}
		if !bytes.Equal(full(b), was) {
			t.Error("P2: Write changed what it was handed")
		}
		spoil(b)
		if read(t, d) != "a" || after(t, d, 1) != "a" {
			t.Error("P2: Write kept what it was handed")
		}
		put(t, d, 0, "b")
		d.Sync()
		spoil(b)
		if !bytes.Equal(full(b), was) || read(t, d) != "b" {
			t.Error("P2: what was handed to Write was changed later")
		}
	}
}

func TestVersionsAreApart(t *testing.T) {
	d := made(t, 2)
	b := of('a')
	for n := range 2 {
		for _, c := range []byte("xyz") {
			copy(b, of(c))
			d.Write(n, b)
		}
	}
	for p, want := range []string{"\x00\x00", "xx", "yy", "zz"} {
		if got := after(t, d, p, p); got != want {
			t.Errorf("P2: one list written again and again, Cut of %d each: %q", p, got)
		}
	}
}

func TestPicksAreLeft(t *testing.T) {
	d := made(t, 3)
	put(t, d, 0, "ab")
	put(t, d, 1, "cd")
	put(t, d, 2, "ef")
	for name, do := range map[string]func(x *Disk, picks []int){
		"Cut": func(x *Disk, picks []int) { x.Cut(picks...) },
		"Arm": func(x *Disk, picks []int) { x.Arm(1, picks...); x.Write(0, of('n')) },
	} {
		x := d.Twin()
		picks := roomy([]int{-1, 7, 1}, 1)
		was := full(picks)
		do(x, picks)
		if !slices.Equal(full(picks), was) || letters(t, x.Image()) != "bce" {
			t.Errorf("P2: %s: picks %v, %q", name, full(picks), letters(t, x.Image()))
		}
	}
}

func TestArmKeepsNoPicksOfOthers(t *testing.T) {
	d := made(t, 1)
	put(t, d, 0, "ab")
	picks := []int{1}
	d.Arm(1, picks...)
	x := d.Twin()
	picks[0] = 2
	for _, disk := range []*Disk{x, d} {
		if disk.Write(0, of('c')) != api.ErrDown || letters(t, disk.Image()) != "a" {
			t.Errorf("P2: Arm kept picks: %q", letters(t, disk.Image()))
		}
	}
}

func TestAnswersAreNewMemory(t *testing.T) {
	d := made(t, 2)
	put(t, d, 0, "a")
	d.Sync()
	for _, waiting := range []bool{false, true} {
		if waiting {
			put(t, d, 0, "bc")
			put(t, d, 1, "z")
		}
		was := tell(d)
		x := d.Twin()
		one, _ := d.Read(0)
		two, _ := d.Read(0)
		spoil(one)
		other, _ := d.Read(1)
		spoil(other)
		spoil(d.Image())
		if tell(d) != was || tell(x) != was || letters(t, two) != was.image[:1] {
			t.Errorf("P2: Read or Image answered memory of the disk; waiting is %v", waiting)
		}
		if after(t, d) != "a\x00" || (waiting && after(t, d, 1, 1) != "bz") {
			t.Errorf("P2: Read or Image answered memory of what is synced; waiting is %v", waiting)
		}
	}
}
