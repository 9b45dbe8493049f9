package logbook

import (
	"bytes"
	"math"
	"slices"
	"testing"

	"drawbar/api"
	"drawbar/nand"
	"drawbar/sheet"
)

func fresh(t *testing.T, blocks, pages int, bad ...int) *nand.Array {
	t.Helper()
	a, e := nand.New(blocks, pages, bad)
	if e != api.OK {
		t.Fatalf("New(%d, %d, %v): %d", blocks, pages, bad, e)
	}
	return a
}

// want holds what a call answered against what it should.
func want(t *testing.T, what string, got, want api.Errno) {
	t.Helper()
	if got != want {
		t.Errorf("%s: %d, want %d", what, got, want)
	}
}

func last(t *testing.T, what string, a *nand.Array, want Entry, wantE api.Errno) {
	t.Helper()
	if x, e := Last(a); x != want || e != wantE {
		t.Errorf("%s: Last = %v, %d, want %v, %d", what, x, e, want, wantE)
	}
}

// stands: what is told of a block of claims.
func stands(t *testing.T, a *nand.Array, i, next, erases int, failed bool) {
	t.Helper()
	if a.Next(i) != next || a.Erases(i) != erases || a.Failed(i) != failed {
		t.Errorf("block %d: Next %d, Erases %d, Failed %t, want %d, %d, %t", i, a.Next(i), a.Erases(i), a.Failed(i), next, erases, failed)
	}
}

// claims: claims one behind the other, each of which must be taken.
func claims(t *testing.T, a *nand.Array, epochs ...uint64) {
	t.Helper()
	for _, epoch := range epochs {
		want(t, "Claim", Claim(a, Entry{epoch, int(epoch % 2)}), api.OK)
	}
}

// told: all that an array's calls tell.
func told(a *nand.Array) []any {
	out := []any{a.Blocks(), a.Pages(), a.Fence(), a.Boots(), a.Ops(), a.On()}
	for i := range a.Blocks() {
		out = append(out, a.Next(i), a.Erases(i), a.Failed(i))
		for page := range a.Pages() {
			p, e := a.Read(i, page)
			out = append(out, string(p), e)
		}
	}
	return out
}

// put programs a sheet as the next page of a block.
func put(t *testing.T, a *nand.Array, i int, s sheet.Sheet) {
	t.Helper()
	want(t, "Program", a.Program(i, a.Next(i), sheet.Lay(s), math.MaxUint64), api.OK)
}

// claimSheet: what stands on a claim's page.
func claimSheet(epoch uint64, who int) sheet.Sheet {
	return sheet.Sheet{Kind: sheet.Claim, Epoch: epoch, Seq: epoch, Addr: who, From: -1}
}

// tear cuts the erasing of a block.
func tear(t *testing.T, a *nand.Array, i int) {
	t.Helper()
	a.Arm(1)
	want(t, "Erase", a.Erase(i, math.MaxUint64), api.ErrCrash)
	a.Restart(1)
}

// P6.1
func TestNoClaim(t *testing.T) {
	last(t, "erased", fresh(t, 2, 2), Entry{}, api.OK)
	last(t, "erased", fresh(t, 64, 32), Entry{}, api.OK)
	last(t, "both blocks bad", fresh(t, 2, 1, 0, 1), Entry{}, api.OK)
}

// P6.1: where each claim stands, and what stands there.
func TestClaims(t *testing.T) {
	for _, size := range [][2]int{{2, 1}, {2, 2}, {3, 3}, {api.MaxBlocks, api.MaxPages}} {
		a := fresh(t, size[0], size[1])
		epochs := []uint64{1, 2, 3, 9, 300, 1 << 32, 1<<48 - 2, 1<<48 - 1}
		for n, epoch := range epochs {
			x := Entry{epoch, n / 2 % 2}
			want(t, "Claim", Claim(a, x), api.OK)
			last(t, "claimed", a, x, api.OK)
			block, page := n/size[1]%2, n%size[1]
			p, e := a.Read(block, page)
			if e != api.OK || !bytes.Equal(p, sheet.Lay(claimSheet(epoch, x.Who))) {
				t.Errorf("%v: claim %d isn't page %d of block %d: %x, %d", size, n, page, block, p, e)
			}
			stands(t, a, block, page+1, (n/size[1]+1)/2, false)
			if a.Ops() != n+1+n/size[1] {
				t.Errorf("%v: %d operations of %d claims", size, a.Ops(), n+1)
			}
		}
		for i := api.LogBlocks; i < size[0]; i++ {
			stands(t, a, i, 0, 0, false)
		}
	}
}

// P6.1
func TestNoBook(t *testing.T) {
	one := fresh(t, 1, 4)
	before := told(one)
	for _, a := range []*nand.Array{nil, one} {
		last(t, "no book", a, Entry{}, api.ErrNone)
		for _, x := range []Entry{{1, 0}, {0, 0}, {1, 2}, {1 << 48, -1}} {
			want(t, "Claim", Claim(a, x), api.ErrNone)
		}
	}
	if !slices.Equal(told(one), before) {
		t.Error("something has changed")
	}
}

// wrong: entries that can't be claimed.
func wrong() []Entry {
	return []Entry{
		{}, {0, 1}, {1 << 48, 0}, {1<<48 + 1, 1}, {math.MaxUint64, 0}, {9, -1}, {9, 2}, {9, math.MaxInt}, {9, math.MinInt}, {9, 65536}, {1 << 63, 7},
	}
}

// P6.1
func TestClaimRefuses(t *testing.T) {
	for _, epochs := range [][]uint64{nil, {4, 5}, {4, 5, 6}, {4, 5, 6, 7}, {1<<48 - 1}} {
		a := fresh(t, 3, 2)
		claims(t, a, epochs...)
		a.Raise(math.MaxUint64)
		before := told(a)
		for _, x := range wrong() {
			want(t, "Claim of what can't be claimed", Claim(a, x), api.ErrArg)
		}
		for _, epoch := range epochs {
			for who := range 2 {
				want(t, "Claim of the same", Claim(a, Entry{epoch, who}), api.ErrOrder)
				want(t, "Claim of one below", Claim(a, Entry{epoch - 1, who}), api.ErrOrder)
			}
		}
		if !slices.Equal(told(a), before) {
			t.Errorf("behind %v: something has changed", epochs)
		}
	}
}

// P6.1: pages that aren't programmed aren't read, so that where none is the power's being off isn't told by reading.
func TestThePowerIsOff(t *testing.T) {
	a := fresh(t, 3, 2)
	a.Arm(1)
	want(t, "Program", a.Program(2, 0, make([]byte, api.PageSize), 0), api.ErrCrash)
	last(t, "nothing is programmed", a, Entry{}, api.OK)
	want(t, "Claim", Claim(a, Entry{1, 0}), api.ErrCrash)
	want(t, "Claim", Claim(a, Entry{0, 0}), api.ErrArg)

	for _, epochs := range [][]uint64{{5}, {5, 6, 7}, {5, 6, 7, 8, 9}} {
		a = fresh(t, 3, 2)
		claims(t, a, epochs...)
		a.Arm(1)
		want(t, "Erase", a.Erase(2, math.MaxUint64), api.ErrCrash)
		last(t, "off", a, Entry{}, api.ErrCrash)
		want(t, "Claim", Claim(a, Entry{20, 0}), api.ErrCrash)
		want(t, "Claim of what isn't above", Claim(a, Entry{1, 0}), api.ErrCrash)
		for _, x := range wrong() {
			want(t, "Claim of what can't be claimed", Claim(a, x), api.ErrArg)
		}
		a.Restart(0)
		end := epochs[len(epochs)-1]
		last(t, "on again", a, Entry{end, int(end % 2)}, api.OK)
	}
}

// P6.1
func TestPagesThatAreNoClaimsPlayNoPart(t *testing.T) {
	for what, s := range map[string]sheet.Sheet{
		"a Value":             {Kind: sheet.Value, Epoch: 9, Seq: 9, Addr: 1, From: -1},
		"a Hole":              {Kind: sheet.Hole, Epoch: 9, Seq: 9, Addr: 1, From: -1},
		"a greater Seq":       {Kind: sheet.Claim, Epoch: 9, Seq: 10, Addr: 1, From: -1},
		"a lesser Seq":        {Kind: sheet.Claim, Epoch: 9, Seq: 8, Addr: 1, From: -1},
		"who is neither":      {Kind: sheet.Claim, Epoch: 9, Seq: 9, Addr: 2, From: -1},
		"who is far":          {Kind: sheet.Claim, Epoch: 9, Seq: 9, Addr: 65535, From: -1},
		"a copy":              {Kind: sheet.Claim, Epoch: 9, Seq: 9, Addr: 1, From: 0},
		"another's copy":      {Kind: sheet.Claim, Epoch: 9, Seq: 9, Addr: 1, From: 63},
		"a claim of no epoch": {Kind: sheet.Claim, Epoch: 0, Seq: 0, Addr: 1, From: -1},
	} {
		for i := range api.LogBlocks {
			a := fresh(t, 2, 4)
			put(t, a, i, s)
			last(t, what, a, Entry{}, api.OK)
			want(t, what, Claim(a, Entry{3, 1}), api.OK)
			last(t, what, a, Entry{3, 1}, api.OK)
			stands(t, a, 0, 2-i, 0, false)
			put(t, a, 0, s)
			last(t, what, a, Entry{3, 1}, api.OK)
		}
	}
	a := fresh(t, 3, 9)
	put(t, a, 2, claimSheet(7, 1))
	last(t, "on a block behind", a, Entry{}, api.OK)
	page := sheet.Lay(claimSheet(8, 1))
	for n := range 4 {
		torn := append(bytes.Clone(page[:30*n]), bytes.Repeat([]byte{0xff}, api.PageSize-30*n)...)
		want(t, "Program", a.Program(0, n, torn, 0), api.OK)
		last(t, "torn", a, Entry{}, api.OK)
	}
	page[20] ^= 1
	want(t, "Program", a.Program(0, 4, page, 0), api.OK)
	last(t, "a bit turned", a, Entry{}, api.OK)
	claims(t, a, 1, 2)
	stands(t, a, 0, 7, 0, false)
	last(t, "behind all these", a, Entry{2, 0}, api.OK)
}

// P6.1: the greatest one, wherever it stands; the next one stands behind it.
func TestTheGreatestIsTheLast(t *testing.T) {
	type on struct {
		block int
		epoch uint64
	}
	for _, c := range []struct {
		laid  []on
		last  uint64
		block int
	}{
		{[]on{{0, 5}, {0, 3}}, 5, 0},
		{[]on{{0, 3}, {0, 5}, {0, 4}}, 5, 0},
		{[]on{{1, 5}}, 5, 1},
		{[]on{{1, 5}, {1, 3}}, 5, 1},
		{[]on{{0, 5}, {1, 3}}, 5, 0},
		{[]on{{0, 3}, {1, 5}}, 5, 1},
		{[]on{{0, 300}, {0, 2}, {1, 299}, {1, 255}}, 300, 0},
		{[]on{{0, 255}, {1, 256}, {1, 1}}, 256, 1},
		{[]on{{0, 5}, {1, 5}}, 5, 0},
		{[]on{{1, 5}, {0, 3}, {0, 5}}, 5, 0},
	} {
		a := fresh(t, 2, 4)
		pages := [2]int{}
		for _, x := range c.laid {
			put(t, a, x.block, claimSheet(x.epoch, int(x.epoch%2)))
			pages[x.block]++
		}
		last(t, "laid", a, Entry{c.last, int(c.last % 2)}, api.OK)
		want(t, "Claim", Claim(a, Entry{c.last, 0}), api.ErrOrder)
		want(t, "Claim", Claim(a, Entry{c.last + 1, 1}), api.OK)
		pages[c.block]++
		stands(t, a, 0, pages[0], 0, false)
		stands(t, a, 1, pages[1], 0, false)
		last(t, "claimed", a, Entry{c.last + 1, 1}, api.OK)
	}
}

// P6.1
func TestABlockWhoseErasingWasCut(t *testing.T) {
	// The block that has the last claim is torn: that claim is gone, the other block's is the last.
	a := fresh(t, 2, 2)
	claims(t, a, 1, 2, 3)
	tear(t, a, 1)
	last(t, "block 1 torn", a, Entry{2, 0}, api.OK)
	want(t, "Claim", Claim(a, Entry{4, 1}), api.OK)
	stands(t, a, 0, 2, 0, false)
	stands(t, a, 1, 1, 2, false)
	last(t, "claimed", a, Entry{4, 1}, api.OK)

	// The other block is torn: the claim goes behind the last one all the same.
	a = fresh(t, 2, 2)
	claims(t, a, 1, 2, 3)
	tear(t, a, 0)
	last(t, "block 0 torn", a, Entry{3, 1}, api.OK)
	claims(t, a, 4)
	stands(t, a, 0, 2, 0, false)
	stands(t, a, 1, 2, 1, false)
	claims(t, a, 5)
	stands(t, a, 0, 1, 1, false)
	last(t, "claimed", a, Entry{5, 1}, api.OK)

	// There is no claim, and block 0 is torn: the other one is erased, whatever stands there.
	for _, both := range []bool{false, true} {
		a = fresh(t, 2, 3)
		claims(t, a, 1)
		tear(t, a, 0)
		put(t, a, 1, sheet.Sheet{Kind: sheet.Hole, From: -1})
		if both {
			tear(t, a, 1)
		}
		last(t, "torn", a, Entry{}, api.OK)
		want(t, "Claim", Claim(a, Entry{1, 0}), api.OK)
		stands(t, a, 0, 1, 0, false)
		stands(t, a, 1, 1, 1, false)
		last(t, "claimed", a, Entry{1, 0}, api.OK)
	}
}

// P6.1
func TestAClaimThatFailsIsProgrammedAgain(t *testing.T) {
	// A bad block 0 takes no claim: the other block is begun when its pages are through.
	a := fresh(t, 2, 3, 0)
	claims(t, a, 1)
	stands(t, a, 0, 3, 0, true)
	stands(t, a, 1, 1, 1, false)
	last(t, "claimed", a, Entry{1, 1}, api.OK)
	if a.Ops() != 5 {
		t.Errorf("%d operations, want 5", a.Ops())
	}

	// A block that begins to fail keeps the claims that it has.
	for n := 1; n < 4; n++ {
		a = fresh(t, 2, 3)
		a.Doom(0, n)
		for epoch := range uint64(n) {
			last(t, "doomed", a, Entry{epoch, int(epoch % 2)}, api.OK)
			claims(t, a, epoch+1)
		}
		last(t, "claimed", a, Entry{uint64(n), n % 2}, api.OK)
		stands(t, a, 0, 3, 0, true)
		stands(t, a, 1, 1, 1, false)
		if a.Ops() != 5 {
			t.Errorf("doomed in %d: %d operations, want 5", n, a.Ops())
		}
		claims(t, a, 10, 11)
		stands(t, a, 1, 3, 1, false)
		want(t, "no block is left", Claim(a, Entry{12, 0}), api.ErrFail)
		last(t, "no block is left", a, Entry{11, 1}, api.OK)
	}
}

// P6.1: an error of the erasing is the answer, and nothing is programmed.
func TestTheOtherBlockFails(t *testing.T) {
	a := fresh(t, 2, 2, 1)
	claims(t, a, 1, 2)
	for n := range 3 {
		want(t, "its erasing fails", Claim(a, Entry{3, 1}), api.ErrFail)
		last(t, "its erasing fails", a, Entry{2, 0}, api.OK)
		stands(t, a, 0, 2, 0, false)
		stands(t, a, 1, 0, 0, true)
		if a.Ops() != 3+n {
			t.Errorf("%d operations, want %d", a.Ops(), 3+n)
		}
	}

	a = fresh(t, 2, 2)
	claims(t, a, 1, 2)
	a.Doom(1, 2)
	want(t, "its first page fails", Claim(a, Entry{3, 1}), api.ErrFail)
	last(t, "its first page fails", a, Entry{2, 0}, api.OK)
	stands(t, a, 0, 2, 0, false)
	stands(t, a, 1, 1, 1, true)

	a = fresh(t, 2, 2, 0, 1)
	want(t, "both are bad", Claim(a, Entry{3, 1}), api.ErrFail)
	last(t, "both are bad", a, Entry{}, api.OK)
	stands(t, a, 0, 2, 0, true)
	stands(t, a, 1, 0, 0, true)
}

// P6.1, P4: it is done in the name of the claim's epoch.
func TestBelowTheFence(t *testing.T) {
	for _, epochs := range [][]uint64{nil, {1}, {1, 2}, {1, 2, 3}, {1, 2, 3, 4}} {
		a := fresh(t, 2, 2)
		claims(t, a, epochs...)
		a.Raise(8)
		before := told(a)
		for _, epoch := range []uint64{5, 7} {
			want(t, "below the fence", Claim(a, Entry{epoch, 1}), api.ErrFence)
		}
		if !slices.Equal(told(a), before) {
			t.Errorf("behind %v: something has changed", epochs)
		}
		want(t, "at the fence", Claim(a, Entry{8, 0}), api.OK)
		last(t, "at the fence", a, Entry{8, 0}, api.OK)
		a.Restart(0)
		want(t, "the fence is gone, the claim isn't", Claim(a, Entry{7, 1}), api.ErrOrder)
		last(t, "the fence is gone, the claim isn't", a, Entry{8, 0}, api.OK)
	}
	torn := fresh(t, 2, 2)
	claims(t, torn, 1)
	tear(t, torn, 0)
	torn.Raise(8)
	want(t, "below the fence", Claim(torn, Entry{7, 1}), api.ErrFence)
	stands(t, torn, 1, 0, 0, false)
	want(t, "at the fence", Claim(torn, Entry{8, 1}), api.OK)
}
