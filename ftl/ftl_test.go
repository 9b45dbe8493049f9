package ftl

import (
	"bytes"
	"math"
	"slices"
	"testing"

	"drawbar/api"
	"drawbar/nand"
	"drawbar/plan"
	"drawbar/sheet"
)

// small: addresses 0 to 7 (that of plan.Meta), on the blocks 2 to 6, of pages 0 to 2; of its blocks one may fail.
var small = api.Geometry{Blocks: 7, Pages: 3, Spare: 1}

// geometries: with and without bad blocks and spares, the least and the greatest.
func geometries() []api.Geometry {
	return []api.Geometry{
		small,
		{Blocks: 6, Pages: 2, Spare: 0},
		{Blocks: 8, Pages: 4, Spare: 1, Bad: []int{5}},
		{Blocks: 5, Pages: 3, Spare: 0},
		{Blocks: 11, Pages: 2, Spare: 3, Bad: []int{8, 2}},
		{Blocks: 8, Pages: 5, Spare: 3},
	}
}

func fresh(t *testing.T, g api.Geometry) *nand.Array {
	t.Helper()
	a, e := nand.New(g.Blocks, g.Pages, g.Bad)
	if e != api.OK || !plan.Form(g) {
		t.Fatalf("New(%v): %d, Form %t", g, e, plan.Form(g))
	}
	return a
}

func mount(t *testing.T, a *nand.Array, g api.Geometry, epoch uint64) *FTL {
	t.Helper()
	f, e := Mount(a, g, epoch)
	if e != api.OK || f == nil || f.Epoch() != epoch {
		t.Fatalf("Mount of %d: %v, %d", epoch, f, e)
	}
	return f
}

func want(t *testing.T, what string, got, want api.Errno) {
	t.Helper()
	if got != want {
		t.Errorf("%s: %d, want %d", what, got, want)
	}
}

// writes writes a letter to each of some addresses: a at first, then b ..
func writes(t *testing.T, f *FTL, first byte, addrs ...int) {
	t.Helper()
	for i, addr := range addrs {
		want(t, "Write", f.Write(addr, []byte{first + byte(i)}), api.OK)
	}
}

func reads(t *testing.T, f *FTL, addr int, data string) {
	t.Helper()
	if p, e := f.Read(addr); e != api.OK || string(p) != data {
		t.Errorf("Read(%d) = %q, %d, want %q", addr, p, e, data)
	}
}

func refusesRead(t *testing.T, f *FTL, addr int, e api.Errno) {
	t.Helper()
	if p, got := f.Read(addr); got != e || len(p) != 0 {
		t.Errorf("Read(%d) = %q, %d, want none, %d", addr, p, got, e)
	}
}

// counts: what an FTL tells of its blocks and addresses.
func counts(t *testing.T, what string, f *FTL, failed, free, pages int) {
	t.Helper()
	if f.Failed() != failed || f.Free() != free || f.Len() != pages {
		t.Errorf("%s: Failed %d, Free %d, Len %d, want %d, %d, %d", what, f.Failed(), f.Free(), f.Len(), failed, free, pages)
	}
}

// told: all that an FTL's calls tell, and its array's.
func told(f *FTL, a *nand.Array, g api.Geometry) []any {
	out := []any{f.Epoch(), f.Failed(), f.Free(), f.Len(), a.Ops()}
	for addr := range plan.Meta(g) + 1 {
		p, e := f.Read(addr)
		out = append(out, string(p), e)
	}
	for b := range a.Blocks() {
		out = append(out, a.Next(b), a.Erases(b), a.Failed(b))
		for page := range a.Pages() {
			p, e := a.Read(b, page)
			out = append(out, string(p), e)
		}
	}
	return out
}

// value: a sheet of a test's own, as an FTL of the epoch 1 lays it.
func value(seq uint64, addr int, data string) sheet.Sheet {
	return sheet.Sheet{Kind: sheet.Value, Epoch: 1, Seq: seq, Addr: addr, From: -1, Data: []byte(data)}
}

func copied(seq uint64, addr, from int, data string) sheet.Sheet {
	s := value(seq, addr, data)
	s.From = from
	return s
}

func hole(seq uint64, addr, from int) sheet.Sheet {
	return sheet.Sheet{Kind: sheet.Hole, Epoch: 1, Seq: seq, Addr: addr, From: from}
}

// none is a page that is no sheet.
func none() sheet.Sheet {
	return sheet.Sheet{}
}

// put lays sheets as the next pages of a block; none as ff.
func put(t *testing.T, a *nand.Array, b int, sheets ...sheet.Sheet) {
	t.Helper()
	for _, s := range sheets {
		p := bytes.Repeat([]byte{0xff}, api.PageSize)
		if s.Kind != 0 {
			p = sheet.Lay(s)
		}
		if e := a.Program(b, a.Next(b), p, a.Fence()); e != api.OK {
			t.Fatalf("Program(%d): %d", b, e)
		}
	}
}

// lies holds what stands on a block's pages against sheets, all of them.
func lies(t *testing.T, what string, a *nand.Array, b int, sheets ...sheet.Sheet) {
	t.Helper()
	if a.Next(b) != len(sheets) {
		t.Errorf("%s: block %d has %d pages, want %d", what, b, a.Next(b), len(sheets))
		return
	}
	for page, s := range sheets {
		if got := on(a, b, page); !same(got, s) {
			t.Errorf("%s: block %d, page %d: %v, want %v", what, b, page, got, s)
		}
	}
}

// on: the sheet on a page; of none the zero value.
func on(a *nand.Array, b, page int) sheet.Sheet {
	p, _ := a.Read(b, page)
	s, _ := sheet.Read(p)
	return s
}

// same: are both sheets one? None and no bytes are the same.
func same(x, y sheet.Sheet) bool {
	return slices.Equal(x.Data, y.Data) && x.Kind == y.Kind && x.Epoch == y.Epoch &&
		x.Seq == y.Seq && x.Addr == y.Addr && x.From == y.From
}

// fail: some blocks fail from now on, and have.
func fail(t *testing.T, a *nand.Array, blocks ...int) {
	t.Helper()
	for _, b := range blocks {
		a.Doom(b, 1)
		want(t, "Erase of a doomed one", a.Erase(b, a.Fence()), api.ErrFail)
	}
}

// tear cuts the erasing of a block.
func tear(t *testing.T, a *nand.Array, b int) {
	t.Helper()
	a.Arm(1)
	want(t, "Erase", a.Erase(b, a.Fence()), api.ErrCrash)
	a.Restart(1)
}

// off takes an array's power, without a change of what it holds.
func off(t *testing.T, a *nand.Array) {
	t.Helper()
	a.Arm(1)
	want(t, "Erase", a.Erase(0, a.Fence()), api.ErrCrash)
}

// P10.2: the document's example.
func TestExample(t *testing.T) {
	a := fresh(t, small)
	f := mount(t, a, small, 1)
	writes(t, f, 'a', 0, 0)
	reads(t, f, 0, "b")
	want(t, "Trim", f.Trim(0), api.OK)
	reads(t, f, 0, "")
	reads(t, mount(t, a, small, 2), 0, "")
}

// P10.2: each address has its data, whatever bytes these are, also behind a Mount.
func TestReadsWhatWasWritten(t *testing.T) {
	for _, g := range append(geometries(), api.Geometry{Blocks: api.MaxBlocks, Pages: api.MaxPages, Spare: api.MaxSpare}) {
		a := fresh(t, g)
		f := mount(t, a, g, 1)
		data := func(addr int) string {
			return string(bytes.Repeat([]byte{byte(addr), 0xff, 0, 0x5a}, api.DataSize/4)[:addr%(api.DataSize+1)])
		}
		for round := range 2 {
			for addr := range plan.Meta(g) + 1 {
				if round == 0 {
					reads(t, f, addr, "")
				}
				want(t, "Write", f.Write(addr, []byte(data(addr))), api.OK)
			}
			for addr := range plan.Meta(g) + 1 {
				reads(t, f, addr, data(addr))
			}
			if f.Len() != plan.Meta(g)+1 {
				t.Errorf("Len = %d", f.Len())
			}
		}
		f = mount(t, a, g, 2)
		for addr := range plan.Meta(g) + 1 {
			reads(t, f, addr, data(addr))
		}
	}
}

// P10.2: data of all lengths, at the limit, and one beyond.
func TestLengths(t *testing.T) {
	a := fresh(t, small)
	f := mount(t, a, small, 1)
	for n := range api.DataSize + 1 {
		data := bytes.Repeat([]byte{0xff}, n)
		want(t, "Write", f.Write(3, data), api.OK)
		reads(t, f, 3, string(data))
	}
	before := told(f, a, small)
	want(t, "one beyond", f.Write(3, make([]byte, api.DataSize+1)), api.ErrLong)
	want(t, "far beyond", f.Write(3, make([]byte, 70000)), api.ErrLong)
	if !slices.Equal(told(f, a, small), before) {
		t.Error("something has changed")
	}
}

// P10.2: no such address, ahead of all other errors.
func TestNoSuchAddress(t *testing.T) {
	for _, g := range geometries() {
		a := fresh(t, g)
		f := mount(t, a, g, 1)
		most := plan.Meta(g)
		writes(t, f, 'a', 0, most)
		before := told(f, a, g)
		for _, addr := range []int{math.MinInt, -1, most + 1, 65535, 65536, math.MaxInt} {
			refusesRead(t, f, addr, api.ErrArg)
			want(t, "Write", f.Write(addr, nil), api.ErrArg)
			want(t, "Write of too much", f.Write(addr, make([]byte, api.DataSize+1)), api.ErrArg)
			want(t, "Trim", f.Trim(addr), api.ErrArg)
		}
		if !slices.Equal(told(f, a, g), before) {
			t.Error("something has changed")
		}
		off(t, a)
		refusesRead(t, f, most+1, api.ErrArg)
		want(t, "Write, off", f.Write(-1, nil), api.ErrArg)
		want(t, "Trim, off", f.Trim(-1), api.ErrArg)
	}
}

// P10.2: of an address without a page nothing is done; a Hole is a page.
func TestTrim(t *testing.T) {
	a := fresh(t, small)
	f := mount(t, a, small, 1)
	want(t, "Trim of none", f.Trim(2), api.OK)
	if a.Ops() != 0 {
		t.Errorf("%d operations", a.Ops())
	}
	writes(t, f, 'a', 2)
	want(t, "Trim", f.Trim(2), api.OK)
	reads(t, f, 2, "")
	counts(t, "trimmed", f, 0, 4, 1)
	want(t, "Trim of a Hole", f.Trim(2), api.OK)
	lies(t, "trimmed", a, 2, value(1, 2, "a"), hole(2, 2, -1), hole(3, 2, -1))
	f = mount(t, a, small, 1)
	reads(t, f, 2, "")
	counts(t, "mounted", f, 0, 4, 1)
	writes(t, f, 'd', 2)
	reads(t, f, 2, "d")

	off(t, a)
	want(t, "Trim of none, off", f.Trim(3), api.OK)
	want(t, "Trim, off", f.Trim(2), api.ErrCrash)
	a.Restart(0)
	a.Raise(9)
	want(t, "Trim of none, below the fence", f.Trim(3), api.OK)
	want(t, "Trim, below the fence", f.Trim(2), api.ErrFence)
}

// P10.2: a Value without data is another page than a Hole, but both have no data.
func TestNoData(t *testing.T) {
	a := fresh(t, small)
	f := mount(t, a, small, 1)
	want(t, "Write", f.Write(1, nil), api.OK)
	want(t, "Write", f.Write(2, []byte{}), api.OK)
	reads(t, f, 1, "")
	counts(t, "no data", f, 0, 4, 2)
	lies(t, "no data", a, 2, value(1, 1, ""), value(2, 2, ""))
}

// P10.2: without power nothing is read or written.
func TestPowerOff(t *testing.T) {
	a := fresh(t, small)
	f := mount(t, a, small, 1)
	writes(t, f, 'a', 0, 1)
	want(t, "Trim", f.Trim(1), api.OK)
	off(t, a)
	refusesRead(t, f, 0, api.ErrCrash)
	refusesRead(t, f, 1, api.ErrCrash)
	want(t, "Write", f.Write(0, nil), api.ErrCrash)
	want(t, "Write of too much", f.Write(0, make([]byte, 65)), api.ErrLong)
	want(t, "Trim", f.Trim(0), api.ErrCrash)
	if got, e := Mount(a, small, 2); got != nil || e != api.ErrCrash {
		t.Errorf("Mount = %v, %d", got, e)
	}
	a.Restart(0)
	reads(t, mount(t, a, small, 2), 0, "a")
}

// P10.2, P4: who is below the fence changes nothing, wherever the next page would go.
func TestBelowTheFence(t *testing.T) {
	for n := range 40 {
		a := fresh(t, small)
		f := mount(t, a, small, 5)
		for i := range n {
			writes(t, f, byte('a'+i), 3*i%8)
		}
		want(t, "Raise to its own", a.Raise(5), api.OK)
		writes(t, f, 'z', 0)
		want(t, "Raise", a.Raise(6), api.OK)
		before := told(f, a, small)
		for range 3 {
			want(t, "Write", f.Write(0, []byte("!")), api.ErrFence)
			want(t, "Trim", f.Trim(0), api.ErrFence)
			if !slices.Equal(told(f, a, small), before) {
				t.Fatalf("behind %d writes: something has changed", n)
			}
		}
		reads(t, f, 0, "z")
		reads(t, mount(t, a, small, 6), 0, "z")
	}
}

// P10.2
func TestNil(t *testing.T) {
	var f *FTL
	for _, addr := range []int{math.MinInt, -1, 0, 1, math.MaxInt} {
		refusesRead(t, f, addr, api.ErrNone)
		want(t, "Write", f.Write(addr, make([]byte, 99)), api.ErrNone)
		want(t, "Trim", f.Trim(addr), api.ErrNone)
	}
	counts(t, "nil", f, 0, 0, 0)
	if f.Epoch() != 0 {
		t.Errorf("Epoch = %d", f.Epoch())
	}
}

// The rule of memory: what was handed in may be written over, and so may what was answered.
func TestMemory(t *testing.T) {
	g := api.Geometry{Blocks: 8, Pages: 4, Spare: 1, Bad: []int{5}}
	a := fresh(t, g)
	f := mount(t, a, g, 1)
	if !slices.Equal(g.Bad, []int{5}) {
		t.Errorf("Bad = %v", g.Bad)
	}
	g.Bad[0] = 0 // of an FTL that kept it one address more would be usable
	last := plan.Meta(api.Geometry{Blocks: 8, Pages: 4, Spare: 1, Bad: []int{5}})
	refusesRead(t, f, last+1, api.ErrArg)
	want(t, "Write behind the last", f.Write(last+1, nil), api.ErrArg)
	data := make([]byte, 3, 9)
	copy(data, "abc")
	want(t, "Write", f.Write(last, data), api.OK)
	if string(data) != "abc" {
		t.Errorf("data: %q", data)
	}
	clear(data)
	reads(t, f, last, "abc")
	got, _ := f.Read(last)
	_ = append(got, "beyond"...)
	clear(got)
	reads(t, f, last, "abc")
}

// P1
func TestCallsEndAtAllArguments(t *testing.T) {
	wide := api.Geometry{Blocks: math.MaxInt, Pages: math.MaxInt, Spare: math.MaxInt, Bad: []int{math.MinInt, math.MaxInt}}
	least := api.Geometry{Blocks: math.MinInt, Pages: math.MinInt, Spare: math.MinInt}
	one, _ := nand.New(1, 1, nil)
	arrays := []*nand.Array{nil, one, {}}
	for _, g := range geometries() {
		full := fresh(t, g) // no block of it is free: each is full of other addresses, as far as there are some
		for n := range g.Blocks * g.Pages {
			full.Program(n/g.Pages, n%g.Pages, sheet.Lay(value(1<<47+uint64(n), n%(plan.Meta(g)+1), "a")), 0)
		}
		last := fresh(t, g)
		put(t, last, 3, value(1<<48-1, 0, "the greatest number"))
		arrays = append(arrays, fresh(t, g), full, last)
	}
	addrs := []int{math.MinInt, -1, 0, 1, 7, 65535, math.MaxInt}
	for _, a := range arrays {
		for _, g := range append(geometries(), wide, least, api.Geometry{}) {
			for _, epoch := range []uint64{0, 1, 1<<48 - 1, 1 << 48, math.MaxUint64} {
				f, _ := Mount(a, g, epoch)
				for _, addr := range addrs {
					f.Write(addr, []byte("a"))
					f.Write(addr, make([]byte, 65))
					f.Trim(addr)
					f.Read(addr)
				}
				f.Epoch()
				f.Failed()
				f.Free()
				f.Len()
			}
		}
	}
}
