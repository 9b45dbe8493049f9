package scan

import (
	"math"
	"reflect"
	"slices"
	"testing"

	"drawbar/api"
	"drawbar/nand"
	"drawbar/plan"
	"drawbar/pmap"
	"drawbar/sheet"
)

// small: addresses 0 to 7 (that of plan.Meta), on the blocks 2 to 5, of pages 0 to 2.
var small = api.Geometry{Blocks: 6, Pages: 3, Spare: 0}

// geometries: with and without bad blocks, the least and the greatest.
func geometries() []api.Geometry {
	return []api.Geometry{
		small,
		{Blocks: 8, Pages: 4, Spare: 1, Bad: []int{5}},
		{Blocks: 5, Pages: 3, Spare: 1},
		{Blocks: 10, Pages: 2, Spare: 3, Bad: []int{8, 2}},
		{Blocks: api.MaxBlocks, Pages: api.MaxPages, Spare: api.MaxSpare},
	}
}

func fresh(t *testing.T, g api.Geometry) *nand.Array {
	t.Helper()
	a, e := nand.New(g.Blocks, g.Pages, g.Bad)
	if e != api.OK || !plan.Form(g) {
		t.Fatalf("New(%v): %d, Form %t", g, e, plan.Form(g))
	}
	return a
}

// value: a sheet that is no copy.
func value(seq uint64, addr int, data string) sheet.Sheet {
	return sheet.Sheet{Kind: sheet.Value, Epoch: 7, Seq: seq, Addr: addr, From: -1, Data: []byte(data)}
}

// copied: a sheet that is a copy of a block's page.
func copied(seq uint64, addr, from int, data string) sheet.Sheet {
	s := value(seq, addr, data)
	s.From = from
	return s
}

func hole(seq uint64, addr, from int) sheet.Sheet {
	return sheet.Sheet{Kind: sheet.Hole, Epoch: 8, Seq: seq, Addr: addr, From: from}
}

// put lays sheets as the next pages of a block.
func put(t *testing.T, a *nand.Array, block int, sheets ...sheet.Sheet) {
	t.Helper()
	for _, s := range sheets {
		raw(t, a, block, sheet.Lay(s))
	}
}

// raw programs bytes as the next page of a block.
func raw(t *testing.T, a *nand.Array, block int, p []byte) {
	t.Helper()
	if e := a.Program(block, a.Next(block), p, a.Fence()); e != api.OK {
		t.Fatalf("Program(%d): %d", block, e)
	}
}

// torn: bytes of which the last aren't there.
func torn(s sheet.Sheet, cut int) []byte {
	p := sheet.Lay(s)
	for i := cut; i < len(p); i++ {
		p[i] = 0xff
	}
	return p
}

// tear cuts the erasing of a block.
func tear(t *testing.T, a *nand.Array, block int) {
	t.Helper()
	a.Arm(1)
	if e := a.Erase(block, a.Fence()); e != api.ErrCrash {
		t.Fatalf("Erase(%d): %d", block, e)
	}
	a.Restart(1)
}

// off takes an array's power, without a change of what it holds.
func off(t *testing.T, a *nand.Array) {
	t.Helper()
	a.Arm(1)
	if e := a.Erase(0, a.Fence()); e != api.ErrCrash {
		t.Fatalf("Erase: %d", e)
	}
}

// block holds what Block answers against pages and their sheets, one by one.
func block(t *testing.T, a *nand.Array, g api.Geometry, i int, pages []int, sheets ...sheet.Sheet) {
	t.Helper()
	found, e := Block(a, g, i)
	if e != api.OK || len(found) != len(pages) {
		t.Errorf("Block(%d) = %v, %d, want the pages %v", i, found, e, pages)
		return
	}
	for n, f := range found {
		if f.At != (pmap.Place{Block: i, Page: pages[n]}) || !same(f.S, sheets[n]) {
			t.Errorf("Block(%d), %d: %v, want page %d, %v", i, n, f, pages[n], sheets[n])
		}
	}
}

// same: are both sheets one? None and no bytes are the same.
func same(x, y sheet.Sheet) bool {
	return slices.Equal(x.Data, y.Data) && x.Kind == y.Kind && x.Epoch == y.Epoch &&
		x.Seq == y.Seq && x.Addr == y.Addr && x.From == y.From
}

func refused(t *testing.T, what string, a *nand.Array, g api.Geometry, want api.Errno) {
	t.Helper()
	s, e := All(a, g)
	if e != want || s.Map != nil || len(s.Pages) != 0 || s.Seq != 0 || len(s.Spoil) != 0 {
		t.Errorf("%s: All = %v, %d, want %d", what, s, e, want)
	}
	blockRefused(t, what, a, g, 2, want)
}

func blockRefused(t *testing.T, what string, a *nand.Array, g api.Geometry, i int, want api.Errno) {
	t.Helper()
	if found, e := Block(a, g, i); e != want || len(found) != 0 {
		t.Errorf("%s: Block(%d) = %v, %d, want %d", what, i, found, e, want)
	}
}

// P9.1: values and holes, at the edges of what a sheet can hold.
func TestBlock(t *testing.T) {
	for _, g := range geometries() {
		for _, i := range plan.Usable(g) {
			a := fresh(t, g)
			block(t, a, g, i, nil)
			most := value(1<<48-1, plan.Meta(g), string(make([]byte, api.DataSize)))
			most.Epoch, most.From = 1<<48-1, api.MaxBlocks-1
			s := []sheet.Sheet{most, {Kind: sheet.Hole, From: -1}}
			put(t, a, i, s...)
			block(t, a, g, i, []int{0, 1}, s...)
			if a.Pages() > 2 {
				put(t, a, i, value(3, 0, "a"))
				block(t, a, g, i, []int{0, 1, 2}, append(s, value(3, 0, "a"))...)
			}
		}
	}
}

// P9.1: pages that aren't sheets, Claims, and pages of addresses beyond plan.Meta aren't told; those behind them are.
func TestBlockLeavesOut(t *testing.T) {
	g := api.Geometry{Blocks: 4, Pages: 16}
	other := torn(value(1, 0, "a"), 50)
	spoilt := sheet.Lay(value(1, 0, "a"))
	spoilt[4] ^= 1
	for name, p := range map[string][]byte{
		"torn":         other,
		"one short":    torn(value(1, 0, "a"), api.PageSize-1),
		"ff":           torn(value(1, 0, "a"), 0),
		"a wrong sum":  spoilt,
		"noughts":      make([]byte, api.PageSize),
		"a claim":      sheet.Lay(sheet.Sheet{Kind: sheet.Claim, Epoch: 1, Seq: 1, Addr: 1, From: -1}),
		"beyond":       sheet.Lay(value(1, plan.Meta(g)+1, "a")),
		"a far hole":   sheet.Lay(hole(1, 65535, -1)),
		"a far copy":   sheet.Lay(copied(1, 65535, 3, "a")),
		"a copy claim": sheet.Lay(sheet.Sheet{Kind: sheet.Claim, Epoch: 1, Seq: 1, From: 2}),
	} {
		a := fresh(t, g)
		raw(t, a, 2, p)
		block(t, a, g, 2, nil)
		put(t, a, 2, value(5, plan.Meta(g), "b"))
		raw(t, a, 2, p)
		raw(t, a, 2, p)
		put(t, a, 2, hole(6, 0, 3))
		raw(t, a, 2, p)
		block(t, a, g, 2, []int{1, 4}, value(5, plan.Meta(g), "b"), hole(6, 0, 3))
		if s := all(t, name, a, g); s.Seq != 6 || len(s.Pages) != 2 {
			t.Errorf("%s: %v", name, s)
		}
	}
}

// P9.1: a page that was programmed as its block failed isn't told, and the others of such a block are.
func TestBlockThatFails(t *testing.T) {
	a := fresh(t, small)
	put(t, a, 3, value(1, 2, "a"))
	a.Doom(3, 1)
	if e := a.Program(3, 1, sheet.Lay(value(2, 2, "b")), 0); e != api.ErrFail {
		t.Fatalf("Program: %d", e)
	}
	block(t, a, small, 3, []int{0}, value(1, 2, "a"))
	holds(t, "failed", a, small, 1, nil, map[int]pmap.Place{2: {Block: 3, Page: 0}})
}

// P9.1: of a block whose erasing was cut nothing is told, till it is erased and programmed.
func TestBlockWhoseErasingWasCut(t *testing.T) {
	a := fresh(t, small)
	put(t, a, 2, value(9, 0, "a"), value(10, 1, "b"))
	put(t, a, 3, value(1, 2, "c"))
	tear(t, a, 2)
	block(t, a, small, 2, nil)
	holds(t, "torn", a, small, 1, nil, map[int]pmap.Place{2: {Block: 3, Page: 0}})
	a.Erase(2, 0)
	block(t, a, small, 2, nil)
	put(t, a, 2, value(4, 0, "d"))
	block(t, a, small, 2, []int{0}, value(4, 0, "d"))
}

// P9.1: what is no array, no geometry, not that array's, or no usable block.
func TestRefused(t *testing.T) {
	a := fresh(t, small)
	put(t, a, 2, value(1, 0, "a"))
	refused(t, "no array", nil, small, api.ErrNone)
	refused(t, "no array, no form", nil, api.Geometry{}, api.ErrNone)
	blockRefused(t, "no array, no block", nil, small, -1, api.ErrNone)
	for name, g := range map[string]api.Geometry{
		"nothing":            {},
		"one block more":     {Blocks: 7, Pages: 3},
		"one block fewer":    {Blocks: 5, Pages: 3},
		"one page more":      {Blocks: 6, Pages: 4},
		"one page fewer":     {Blocks: 6, Pages: 2},
		"no address":         {Blocks: 6, Pages: 3, Spare: 3},
		"a spare below 0":    {Blocks: 6, Pages: 3, Spare: -1},
		"too many spares":    {Blocks: 6, Pages: 3, Spare: api.MaxSpare + 1},
		"a bad log block":    {Blocks: 6, Pages: 3, Bad: []int{1}},
		"a bad block beyond": {Blocks: 6, Pages: 3, Bad: []int{6}},
		"a bad block twice":  {Blocks: 6, Pages: 3, Bad: []int{3, 3}},
	} {
		refused(t, name, a, g, api.ErrArg)
	}
	for _, i := range []int{math.MinInt, -1, 0, 1, 6, api.MaxBlocks, math.MaxInt} {
		blockRefused(t, "not usable", a, small, i, api.ErrArg)
	}
	bad := small
	bad.Bad = []int{4}
	blockRefused(t, "bad", a, bad, 4, api.ErrArg)
	block(t, a, bad, 2, []int{0}, value(1, 0, "a"))
}

// P9.1, P9.2: without power nothing can be read, whatever the array holds; what is wrong with the arguments goes first.
func TestPowerOff(t *testing.T) {
	a := fresh(t, small)
	off(t, a)
	refused(t, "off, erased", a, small, api.ErrCrash)
	a.Restart(0)
	put(t, a, 2, value(1, 0, "a"), value(2, 1, "a"))
	put(t, a, 4, value(3, 2, "a"))
	tear(t, a, 4)
	off(t, a)
	refused(t, "off", a, small, api.ErrCrash)
	for _, i := range plan.Usable(small) {
		blockRefused(t, "off", a, small, i, api.ErrCrash)
	}
	blockRefused(t, "off, not usable", a, small, 1, api.ErrArg)
	refused(t, "off, another geometry", a, api.Geometry{Blocks: 7, Pages: 3}, api.ErrArg)
	refused(t, "off, no form", a, api.Geometry{Blocks: 6}, api.ErrArg)
	a.Restart(0)
	block(t, a, small, 2, []int{0, 1}, value(1, 0, "a"), value(2, 1, "a"))
}

// The rule of memory: what is told is new, and what was handed in stands.
func TestMemory(t *testing.T) {
	g := api.Geometry{Blocks: 8, Pages: 4, Spare: 1, Bad: []int{5, 3}}
	a := fresh(t, g)
	put(t, a, 2, value(1, 0, "abc"), value(2, 1, "def"))
	put(t, a, 4, copied(3, 0, 2, "abc"))
	for range 2 {
		s := all(t, "memory", a, g)
		found, _ := Block(a, g, 2)
		for _, f := range append(found, s.Pages[0], s.Pages[1]) {
			if len(f.S.Data) != 3 {
				t.Fatalf("data: %v", f)
			}
			_ = append(f.S.Data, "beyond"...)
			f.S.Data[0] = '!'
		}
		if other := s.Pages[1].S.Data; string(other) != "!ef" {
			t.Errorf("data of two pages is one: %s", other)
		}
		s.Spoil[0] = 9
		delete(s.Pages, 1)
		s.Map.Drop(0)
		if !slices.Equal(g.Bad, []int{5, 3}) {
			t.Errorf("Bad = %v", g.Bad)
		}
		holds(t, "again", a, g, 3, []int{4}, map[int]pmap.Place{0: {Block: 2, Page: 0}, 1: {Block: 2, Page: 1}})
		block(t, a, g, 2, []int{0, 1}, value(1, 0, "abc"), value(2, 1, "def"))
	}
}

// P1
func TestCallsEndAtAllArguments(t *testing.T) {
	wide := api.Geometry{Blocks: math.MaxInt, Pages: math.MaxInt, Spare: math.MaxInt, Bad: []int{math.MinInt, math.MaxInt}}
	least := api.Geometry{Blocks: math.MinInt, Pages: math.MinInt, Spare: math.MinInt}
	one, _ := nand.New(1, 1, nil)
	arrays := []*nand.Array{nil, one, {}}
	for _, g := range geometries() {
		arrays = append(arrays, fresh(t, g))
	}
	for _, a := range arrays {
		for i := range a.Blocks() {
			for _, s := range []sheet.Sheet{copied(5, 0, i, "a"), copied(5, 0, (i+1)%api.MaxBlocks, "a")} {
				a.Program(i, a.Next(i), sheet.Lay(s), 0)
			}
		}
		for _, g := range append(geometries(), wide, least, api.Geometry{}) {
			All(a, g)
			for _, i := range []int{math.MinInt, -1, 0, 1, 2, 5, 63, 64, math.MaxInt} {
				Block(a, g, i)
			}
		}
	}
}

// P2: the same, asked again, is told again; nothing of the array changes.
func TestAskedAgain(t *testing.T) {
	a := fresh(t, small)
	put(t, a, 2, value(1, 0, "a"), value(2, 1, "b"))
	put(t, a, 3, copied(3, 0, 2, "a"), hole(4, 2, 2))
	put(t, a, 4, copied(5, 1, 2, "b"))
	first := all(t, "first", a, small)
	ops := a.Ops()
	for range 20 {
		if s := all(t, "again", a, small); !reflect.DeepEqual(s, first) {
			t.Errorf("All = %v, ahead %v", s, first)
		}
	}
	if a.Ops() != ops || a.Next(2) != 2 || a.Next(3) != 2 || a.Next(4) != 1 {
		t.Error("the array has changed")
	}
}
