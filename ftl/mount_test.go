package ftl

import (
	"math"
	"slices"
	"testing"

	"drawbar/api"
	"drawbar/nand"
	"drawbar/sheet"
)

func mountRefused(t *testing.T, what string, a *nand.Array, g api.Geometry, epoch uint64, e api.Errno) {
	t.Helper()
	if f, got := Mount(a, g, epoch); f != nil || got != e {
		t.Errorf("%s: Mount = %v, %d, want %d", what, f, got, e)
	}
}

// P10.1: an erased array: all usable blocks are free, but for those that are bad.
func TestMountOfAnErasedArray(t *testing.T) {
	for _, g := range geometries() {
		a := fresh(t, g)
		f := mount(t, a, g, 3)
		counts(t, "erased", f, 0, g.Blocks-api.LogBlocks-len(g.Bad), 0)
		if a.Ops() != 0 {
			t.Errorf("%d operations", a.Ops())
		}
	}
	a, _ := nand.New(7, 3, []int{0, 4, 6})
	counts(t, "bad, and not told as such", mount(t, a, small, 1), 2, 3, 0)
}

// P10.1: the epoch goes first, then scan.All's errors.
func TestMountRefuses(t *testing.T) {
	a := fresh(t, small)
	for _, epoch := range []uint64{0, 1 << 48, 1<<48 + 1, math.MaxUint64} {
		mountRefused(t, "no epoch", a, small, epoch, api.ErrArg)
		mountRefused(t, "no epoch, no array", nil, small, epoch, api.ErrArg)
	}
	mount(t, a, small, 1)
	mount(t, a, small, 1<<48-1)
	mountRefused(t, "no array", nil, small, 1, api.ErrNone)
	mountRefused(t, "no array, no form", nil, api.Geometry{}, 1, api.ErrNone)
	mountRefused(t, "no form", a, api.Geometry{Blocks: 7, Pages: 3, Spare: 4}, 1, api.ErrArg)
	mountRefused(t, "another array's", a, api.Geometry{Blocks: 8, Pages: 3}, 1, api.ErrArg)
	mountRefused(t, "another array's", a, api.Geometry{Blocks: 7, Pages: 4}, 1, api.ErrArg)
	off(t, a)
	mountRefused(t, "off", a, small, 1, api.ErrCrash)
	mountRefused(t, "off, no epoch", a, small, 0, api.ErrArg)
}

// P10.1: blocks on which no page counts are erased; of what was left out there, the rest stays.
func TestMountErases(t *testing.T) {
	a := fresh(t, small)
	put(t, a, 0, value(90, 0, "of the claims"))
	put(t, a, 2, value(1, 0, "a"), value(2, 1, "b"))
	put(t, a, 3, value(3, 0, "c"), value(4, 1, "d"), hole(5, 2, -1))
	put(t, a, 4, none())
	put(t, a, 5, value(6, 8, "beyond"), sheet.Sheet{Kind: sheet.Claim, Epoch: 1, Seq: 9, From: -1})
	put(t, a, 6, copied(7, 0, 3, "c"))
	f := mount(t, a, small, 1)
	for _, b := range []int{2, 4, 5, 6} {
		lies(t, "no page counts", a, b)
		if a.Erases(b) != 1 {
			t.Errorf("block %d was erased %d times", b, a.Erases(b))
		}
	}
	lies(t, "the claims", a, 0, value(90, 0, "of the claims"))
	lies(t, "that counts", a, 3, value(3, 0, "c"), value(4, 1, "d"), hole(5, 2, -1))
	counts(t, "erased", f, 0, 4, 3)
	reads(t, f, 0, "c")
	writes(t, f, 'e', 0)
	lies(t, "the number behind that of the copy, which didn't count", a, 2, value(8, 0, "e"))
}

// P10.1: a block whose erasing was cut is erased.
func TestMountErasesTornBlocks(t *testing.T) {
	a := fresh(t, small)
	put(t, a, 2, value(1, 0, "a"))
	put(t, a, 3, value(2, 1, "b"))
	tear(t, a, 3)
	f := mount(t, a, small, 1)
	counts(t, "torn", f, 0, 4, 1)
	lies(t, "torn", a, 3)
	reads(t, f, 1, "")
	for _, p := range []int{0, 1, 2, 3, 4, 5} {
		writes(t, f, 'k', p)
	}
	reads(t, mount(t, a, small, 2), 5, "k")
}

// P10.1: a block that fails as it is erased is dead, and no error.
func TestMountErasesABlockThatFails(t *testing.T) {
	a := fresh(t, small)
	put(t, a, 2, value(1, 0, "a"))
	put(t, a, 3, value(2, 0, "b"))
	a.Doom(2, 1)
	f := mount(t, a, small, 1)
	counts(t, "failed", f, 1, 3, 1)
	reads(t, f, 0, "b")
	ops := a.Ops()
	counts(t, "again", mount(t, a, small, 1), 1, 3, 1)
	if a.Ops() != ops {
		t.Error("a dead block was erased again")
	}
}

// P10.1: blocks that have failed are dead; what stands there counts.
func TestMountOfFailedBlocks(t *testing.T) {
	a := fresh(t, small)
	put(t, a, 2, value(9, 0, "a"))
	put(t, a, 3, value(1, 1, "b"))
	fail(t, a, 2, 5)
	f := mount(t, a, small, 1)
	counts(t, "failed", f, 2, 2, 2)
	reads(t, f, 0, "a")
	writes(t, f, 'c', 2)
	lies(t, "no page goes to a dead one", a, 2, value(9, 0, "a"))
	lies(t, "but to the next newest", a, 3, value(1, 1, "b"), value(10, 2, "c"))
}

// P10.1: which block is open: not a full one, and the newest by the pages that count.
func TestMountOpens(t *testing.T) {
	for _, c := range []struct {
		what    string
		blocks  [5][]sheet.Sheet // 2 to 6
		b, page int              // where the next page goes
	}{
		{"one", [5][]sheet.Sheet{1: {value(1, 0, "a")}}, 3, 1},
		{"the newest of two", [5][]sheet.Sheet{{value(1, 0, "a")}, {value(2, 1, "b")}}, 3, 1},
		{"the newest is first", [5][]sheet.Sheet{{value(2, 0, "a")}, {value(1, 1, "b")}}, 2, 1},
		{"the newest by its first page", [5][]sheet.Sheet{{value(4, 0, "a"), value(1, 1, "b")}, {value(2, 2, "c"), value(3, 3, "d")}}, 2, 2},
		{"a Hole", [5][]sheet.Sheet{{value(1, 0, "a")}, {hole(2, 1, -1)}}, 3, 1},
		{"the newest is full", [5][]sheet.Sheet{{value(1, 0, "a")}, {value(2, 1, "b"), value(3, 2, "c"), value(4, 3, "d")}}, 2, 1},
		{"all are full", [5][]sheet.Sheet{{value(1, 0, "a"), value(5, 4, "e"), none()}, {value(2, 1, "b"), value(3, 2, "c"), value(4, 3, "d")}}, 4, 0},
		{"the newest doesn't count", [5][]sheet.Sheet{
			{value(5, 0, "old"), value(2, 1, "b")}, {value(4, 2, "c")}, {value(6, 0, "new"), none(), none()},
		}, 3, 1},
		{"torn pages behind", [5][]sheet.Sheet{{value(1, 0, "a"), none()}}, 2, 2},
		{"but torn pages", [5][]sheet.Sheet{{none()}}, 3, 0},
		{"number 0", [5][]sheet.Sheet{2: {value(0, 0, "a")}}, 4, 1},
	} {
		a := fresh(t, small)
		seq := uint64(0)
		for i, sheets := range c.blocks {
			put(t, a, 2+i, sheets...)
			for _, s := range sheets {
				seq = max(seq, s.Seq)
			}
		}
		f := mount(t, a, small, 1)
		free := f.Free()
		writes(t, f, 'z', 7)
		if got := on(a, c.b, c.page); !same(got, value(seq+1, 7, "z")) {
			t.Errorf("%s: block %d, page %d: %v", c.what, c.b, c.page, got)
		}
		if c.page == 0 {
			free--
		}
		if f.Free() != free {
			t.Errorf("%s: Free = %d, want %d", c.what, f.Free(), free)
		}
	}
}

// P10.1: two blocks are of one number, which the document doesn't promise anything of, but P2 does.
func TestMountOpensTheSame(t *testing.T) {
	for range 30 {
		a := fresh(t, small)
		put(t, a, 3, value(5, 0, "a"), value(5, 1, "b"))
		put(t, a, 4, value(5, 2, "c"), value(5, 3, "d"))
		writes(t, mount(t, a, small, 1), 'z', 7)
		if a.Next(3) != 3 || a.Next(4) != 2 {
			t.Fatalf("Next: %d, %d", a.Next(3), a.Next(4))
		}
	}
}

// P10.1, P4: what is erased is in the epoch's name; where nothing is, the fence plays no part.
func TestMountBelowTheFence(t *testing.T) {
	a := fresh(t, small)
	put(t, a, 2, value(1, 0, "a"))
	a.Raise(5)
	f := mount(t, a, small, 4)
	reads(t, f, 0, "a")
	put(t, a, 3, none())
	ops := a.Ops()
	mountRefused(t, "below", a, small, 4, api.ErrFence)
	if a.Ops() != ops || a.Next(3) != 1 {
		t.Error("the array has changed")
	}
	counts(t, "at the fence", mount(t, a, small, 5), 0, 4, 1)
}

// P10.1: the power goes off as a block is erased.
func TestMountIsCut(t *testing.T) {
	for _, cut := range []int{-1, 0, 1, api.PageSize - 1, api.PageSize} {
		a := fresh(t, small)
		put(t, a, 2, value(1, 0, "a"))
		put(t, a, 3, value(2, 1, "b"))
		put(t, a, 4, value(3, 0, "c"))
		put(t, a, 5, none())
		for n := 1; n <= 2; n++ {
			a.Arm(n)
			mountRefused(t, "cut", a, small, 1, api.ErrCrash)
			a.Restart(cut)
			if cut >= api.PageSize {
				break
			}
		}
		f := mount(t, a, small, 1)
		counts(t, "behind", f, 0, 3, 2)
		reads(t, f, 0, "c")
		reads(t, f, 1, "b")
	}
}

// P10.1: blocks are erased rising, so that it is told which of them were, as the power goes off.
func TestMountErasesRising(t *testing.T) {
	a := fresh(t, small)
	for b := 2; b < 7; b++ {
		put(t, a, b, none())
	}
	a.Arm(3)
	mountRefused(t, "cut", a, small, 1, api.ErrCrash)
	a.Restart(0)
	for b, erases := range []int{0, 0, 1, 1, 0, 0, 0} {
		if a.Erases(b) != erases {
			t.Errorf("block %d was erased %d times, want %d", b, a.Erases(b), erases)
		}
	}
}

// P10.1: a Mount of what is whole changes nothing, and is told the same.
func TestMountAgain(t *testing.T) {
	a := fresh(t, small)
	f := mount(t, a, small, 1)
	for i := range 30 {
		writes(t, f, byte('a'+i), 5*i%8)
	}
	f = mount(t, a, small, 1)
	before := told(f, a, small)
	for range 10 {
		if got := told(mount(t, a, small, 1), a, small); !slices.Equal(got, before) {
			t.Fatal("something has changed")
		}
	}
}
