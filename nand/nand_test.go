package nand

import (
	"bytes"
	"math"
	"slices"
	"testing"

	"drawbar/api"
)

// filled: a page's bytes, each page's others.
func filled(seed int) []byte {
	p := make([]byte, api.PageSize)
	for i := range p {
		p[i] = byte(7*seed + i)
	}
	return p
}

// first: the first n bytes of p, and ff behind them.
func first(p []byte, n int) []byte {
	return append(bytes.Clone(p[:n]), bytes.Repeat([]byte{0xff}, len(p)-n)...)
}

func fresh(t *testing.T, blocks, pages int, bad ...int) *Array {
	t.Helper()
	a, e := New(blocks, pages, bad)
	if e != api.OK || a == nil {
		t.Fatalf("New(%d, %d, %v) = %v, %d", blocks, pages, bad, a, e)
	}
	return a
}

// want holds what a call answered against what it should.
func want(t *testing.T, what string, got, want api.Errno) {
	t.Helper()
	if got != want {
		t.Errorf("%s: %d, want %d", what, got, want)
	}
}

func reads(t *testing.T, a *Array, i, page int, want []byte) {
	t.Helper()
	if p, e := a.Read(i, page); e != api.OK || !bytes.Equal(p, want) {
		t.Errorf("Read(%d, %d) = %x, %d, want %x", i, page, p, e, want)
	}
}

func refusesRead(t *testing.T, a *Array, i, page int, want api.Errno) {
	t.Helper()
	if p, e := a.Read(i, page); e != want || len(p) != 0 {
		t.Errorf("Read(%d, %d) = %x, %d, want none, %d", i, page, p, e, want)
	}
}

// stands: what is told of a block.
func stands(t *testing.T, a *Array, i, next, erases int, failed bool) {
	t.Helper()
	if a.Next(i) != next || a.Erases(i) != erases || a.Failed(i) != failed {
		t.Errorf("block %d: Next %d, Erases %d, Failed %t, want %d, %d, %t", i, a.Next(i), a.Erases(i), a.Failed(i), next, erases, failed)
	}
}

// told: all that an array's calls tell.
func told(a *Array) []any {
	out := []any{a.Blocks(), a.Pages(), a.Fence(), a.Boots(), a.Ops(), a.On()}
	for i := range a.Blocks() {
		out = append(out, a.Next(i), a.Erases(i), a.Failed(i))
		for page := range a.Pages() {
			p, e := a.Read(i, page)
			out = append(out, string(p), e)
		}
	}
	return out
}

// P3.1
func TestNew(t *testing.T) {
	for _, size := range [][2]int{{1, 1}, {api.MaxBlocks, api.MaxPages}, {3, 5}} {
		a := fresh(t, size[0], size[1])
		if a.Blocks() != size[0] || a.Pages() != size[1] || a.Fence() != 0 || a.Boots() != 0 || a.Ops() != 0 || !a.On() {
			t.Errorf("New(%v) tells %v", size, told(a))
		}
		for i := range size[0] {
			stands(t, a, i, 0, 0, false)
			for page := range size[1] {
				refusesRead(t, a, i, page, api.ErrNone)
			}
		}
	}
}

// P3.1
func TestNewRefuses(t *testing.T) {
	for _, c := range []struct {
		blocks, pages int
		bad           []int
	}{
		{0, 1, nil}, {-1, 1, nil}, {api.MaxBlocks + 1, 1, nil}, {math.MaxInt, 1, nil}, {math.MinInt, 1, nil},
		{1, 0, nil}, {1, -1, nil}, {1, api.MaxPages + 1, nil}, {1, math.MaxInt, nil}, {1, math.MinInt, nil},
		{3, 2, []int{3}}, {3, 2, []int{-1}}, {3, 2, []int{0, 1, 2, 3}}, {3, 2, []int{math.MaxInt}}, {3, 2, []int{math.MinInt}},
	} {
		if a, e := New(c.blocks, c.pages, c.bad); a != nil || e != api.ErrArg {
			t.Errorf("New(%d, %d, %v) = %v, %d", c.blocks, c.pages, c.bad, a, e)
		}
	}
}

// P3.1
func TestBadFromTheBeginning(t *testing.T) {
	a := fresh(t, 4, 2, 3, 1, 1)
	for i := range 4 {
		stands(t, a, i, 0, 0, i%2 == 1)
	}
	for i := range 4 {
		e := api.OK
		if i%2 == 1 {
			e = api.ErrFail
		}
		want(t, "Erase", a.Erase(i, 0), e)
		want(t, "Program", a.Program(i, 0, filled(1), 0), e)
	}
	stands(t, a, 1, 1, 0, true)
	stands(t, a, 2, 1, 1, false)
	reads(t, a, 1, 0, first(filled(1), 0))
	reads(t, a, 2, 0, filled(1))
}

// P3.1
func TestPagesAreProgrammedOneBehindAnother(t *testing.T) {
	a := fresh(t, 2, 3)
	for page := range 3 {
		for other := page + 1; other < 3; other++ {
			want(t, "a page too far", a.Program(0, other, filled(9), 0), api.ErrOrder)
		}
		want(t, "Program", a.Program(0, page, filled(page), 0), api.OK)
		want(t, "the page again", a.Program(0, page, filled(9), 0), api.ErrOrder)
		stands(t, a, 0, page+1, 0, false)
	}
	want(t, "behind the last", a.Program(0, 3, filled(9), 0), api.ErrArg)
	for page := range 3 {
		reads(t, a, 0, page, filled(page))
		refusesRead(t, a, 1, page, api.ErrNone)
	}
	stands(t, a, 1, 0, 0, false)
}

// P3.1
func TestErase(t *testing.T) {
	a := fresh(t, 2, 2)
	want(t, "another block", a.Program(1, 0, filled(1), 0), api.OK)
	want(t, "Erase of an erased one", a.Erase(0, 0), api.OK)
	for n := 1; n < 4; n++ {
		stands(t, a, 0, 0, n, false)
		for page := range n % 3 {
			want(t, "Program", a.Program(0, page, filled(page+n), 0), api.OK)
			reads(t, a, 0, page, filled(page+n))
		}
		want(t, "Erase", a.Erase(0, 0), api.OK)
		refusesRead(t, a, 0, 0, api.ErrNone)
		refusesRead(t, a, 0, 1, api.ErrNone)
	}
	reads(t, a, 1, 0, filled(1))
	stands(t, a, 1, 1, 0, false)
}

// ranks: an array whose errors of Program apply from any one on: block 0 has a page, block 1 is torn, block 2 fails, the fence is 5.
func ranks(t *testing.T) *Array {
	a := fresh(t, 3, 2, 2)
	a.Program(0, 0, filled(0), 0)
	a.Program(1, 0, filled(1), 0)
	a.Arm(1)
	a.Erase(1, 0)
	a.Restart(1)
	a.Raise(5)
	return a
}

// P3.1
func TestOrderOfErrors(t *testing.T) {
	short := filled(0)[1:]
	for _, c := range []struct {
		what    string
		i, page int
		p       []byte
		epoch   uint64
		off     bool
		e       api.Errno
	}{
		{"no such block", 3, 9, short, 0, true, api.ErrArg},
		{"no such block", -1, 9, short, 0, true, api.ErrArg},
		{"the power is off", 0, 9, short, 0, true, api.ErrCrash},
		{"the power is off", 2, 0, filled(1), 5, true, api.ErrCrash},
		{"no such page", 0, 2, short, 0, false, api.ErrArg},
		{"no such page", 0, -1, short, 0, false, api.ErrArg},
		{"a byte too few", 0, 0, short, 0, false, api.ErrForm},
		{"a byte too many", 0, 0, append(filled(0), 0), 0, false, api.ErrForm},
		{"no bytes", 1, 0, nil, 0, false, api.ErrForm},
		{"not the next", 0, 0, filled(0), 0, false, api.ErrOrder},
		{"not the next of a torn one", 1, 0, filled(0), 0, false, api.ErrOrder},
		{"the next of a torn one", 1, 1, filled(0), 0, false, api.ErrOrder},
		{"not the next of one that fails", 2, 1, filled(0), 5, false, api.ErrOrder},
		{"below the fence", 0, 1, filled(0), 4, false, api.ErrFence},
		{"below the fence of one that fails", 2, 0, filled(0), 0, false, api.ErrFence},
		{"it fails", 2, 0, filled(0), 5, false, api.ErrFail},
		{"nothing is wrong", 0, 1, filled(0), 5, false, api.OK},
	} {
		a := ranks(t)
		if c.off {
			a.Arm(1)
			a.Erase(0, 5)
		}
		before := told(a)
		want(t, "Program: "+c.what, a.Program(c.i, c.page, c.p, c.epoch), c.e)
		if c.e != api.OK && c.e != api.ErrFail && !slices.Equal(told(a), before) {
			t.Errorf("Program: %s: something has changed", c.what)
		}
	}
}

// P3.1
func TestOrderOfErasesAndReadsErrors(t *testing.T) {
	a := ranks(t)
	before := told(a)
	want(t, "Erase of no block", a.Erase(3, 0), api.ErrArg)
	want(t, "Erase of no block", a.Erase(-1, 5), api.ErrArg)
	want(t, "Erase below the fence", a.Erase(0, 4), api.ErrFence)
	want(t, "Erase below the fence of one that fails", a.Erase(2, 4), api.ErrFence)
	refusesRead(t, a, 3, 0, api.ErrArg)
	refusesRead(t, a, -1, 0, api.ErrArg)
	refusesRead(t, a, 0, 2, api.ErrArg)
	refusesRead(t, a, 0, -1, api.ErrArg)
	refusesRead(t, a, 0, 1, api.ErrNone)
	refusesRead(t, a, 1, 1, api.ErrNone)
	refusesRead(t, a, 1, 0, api.ErrSum)
	if !slices.Equal(told(a), before) {
		t.Error("something has changed")
	}
	want(t, "Erase of one that fails", a.Erase(2, 5), api.ErrFail)
	a.Arm(1)
	want(t, "Erase", a.Erase(2, 5), api.ErrCrash)
	want(t, "Erase of no block, off", a.Erase(3, 5), api.ErrArg)
	want(t, "Erase, off", a.Erase(2, 4), api.ErrCrash)
	refusesRead(t, a, 3, 0, api.ErrArg)
	refusesRead(t, a, 0, 2, api.ErrCrash)
	refusesRead(t, a, 0, 1, api.ErrCrash)
	refusesRead(t, a, 1, 0, api.ErrCrash)
	refusesRead(t, a, 0, 0, api.ErrCrash)
}

// P3.1
func TestNoSuchBlockTellsNothing(t *testing.T) {
	a := fresh(t, 2, 2, 0, 1)
	a.Program(1, 0, filled(0), 0)
	for _, i := range []int{-1, 2, math.MinInt, math.MaxInt} {
		stands(t, a, i, 0, 0, false)
	}
}

// P3.1
func TestWhatIsToldOfABlockNeedsNoPower(t *testing.T) {
	a := fresh(t, 3, 2, 2)
	a.Erase(1, 0)
	a.Program(1, 0, filled(0), 0)
	a.Arm(1)
	want(t, "Program", a.Program(0, 0, filled(0), 0), api.ErrCrash)
	stands(t, a, 0, 0, 0, false)
	stands(t, a, 1, 1, 1, false)
	stands(t, a, 2, 0, 0, true)
	if a.Blocks() != 3 || a.Pages() != 2 {
		t.Errorf("%d, %d", a.Blocks(), a.Pages())
	}
}

// The rule of memory: a page shares nothing with what was handed in, nor with what is answered.
func TestPagesAreApart(t *testing.T) {
	a := fresh(t, 2, 2)
	p := filled(1)
	a.Program(0, 0, p, 0)
	clear(p)
	reads(t, a, 0, 0, filled(1))
	got, _ := a.Read(0, 0)
	clear(got)
	_ = append(got, 1)
	reads(t, a, 0, 0, filled(1))
	a.Arm(1)
	p = filled(2)
	a.Program(0, 1, p, 0)
	if !bytes.Equal(p, filled(2)) {
		t.Error("Program changed what was handed in")
	}
	clear(p)
	a.Restart(api.PageSize)
	reads(t, a, 0, 1, filled(2))
	bad := []int{1}
	b, _ := New(2, 2, bad)
	bad[0] = 0
	stands(t, b, 1, 0, 0, true)
	stands(t, b, 0, 0, 0, false)
}
