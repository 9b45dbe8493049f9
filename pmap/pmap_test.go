package pmap

import (
	"math"
	"math/rand"
	"slices"
	"testing"

	"drawbar/api"
)

const most = 65536 // addresses

func fresh(t *testing.T, addrs, blocks int) *Map {
	t.Helper()
	m, e := New(addrs, blocks)
	if e != api.OK || m == nil {
		t.Fatalf("New(%d, %d) = %v, %d", addrs, blocks, m, e)
	}
	return m
}

// want holds what a call answered against what it should.
func want(t *testing.T, what string, got, want api.Errno) {
	t.Helper()
	if got != want {
		t.Errorf("%s: %d, want %d", what, got, want)
	}
}

func set(t *testing.T, m *Map, addr, block, page int) {
	t.Helper()
	want(t, "Set", m.Set(addr, Place{block, page}), api.OK)
}

func at(t *testing.T, m *Map, addr, block, page int) {
	t.Helper()
	if p, ok := m.Get(addr); p != (Place{block, page}) || !ok {
		t.Errorf("Get(%d) = %v, %t, want %d, %d", addr, p, ok, block, page)
	}
}

func nowhereIs(t *testing.T, m *Map, addrs ...int) {
	t.Helper()
	for _, addr := range addrs {
		if p, ok := m.Get(addr); p != (Place{}) || ok {
			t.Errorf("Get(%d) = %v, %t, want nowhere", addr, p, ok)
		}
	}
}

// on: the addresses on a block, and how many they are.
func on(t *testing.T, m *Map, block int, want ...int) {
	t.Helper()
	if l := m.On(block); !slices.Equal(l, want) || m.Count(block) != len(want) {
		t.Errorf("On(%d) = %v, Count %d, want %v", block, l, m.Count(block), want)
	}
}

func length(t *testing.T, m *Map, want int) {
	t.Helper()
	if m.Len() != want {
		t.Errorf("Len = %d, want %d", m.Len(), want)
	}
}

// P7.1: the document's example.
func TestExample(t *testing.T) {
	m := fresh(t, 9, 4)
	set(t, m, 3, 1, 0)
	set(t, m, 3, 2, 5)
	on(t, m, 1)
	on(t, m, 2, 3)
}

// P7.1
func TestNothingIsAnywhere(t *testing.T) {
	for _, size := range [][2]int{{1, 1}, {5, 3}, {most, api.MaxBlocks}, {1, api.MaxBlocks}, {most, 1}} {
		m := fresh(t, size[0], size[1])
		for addr := range size[0] {
			nowhereIs(t, m, addr)
		}
		for block := range size[1] {
			on(t, m, block)
		}
		length(t, m, 0)
	}
}

// P7.1: the last address, block and page there are, and those one beyond.
func TestEdges(t *testing.T) {
	for _, size := range [][2]int{{1, 1}, {5, 3}, {most, api.MaxBlocks}} {
		addrs, blocks := size[0], size[1]
		m := fresh(t, addrs, blocks)
		set(t, m, addrs-1, blocks-1, api.MaxPages-1)
		at(t, m, addrs-1, blocks-1, api.MaxPages-1)
		on(t, m, blocks-1, addrs-1)
		for _, p := range []Place{{blocks, 0}, {0, api.MaxPages}} {
			want(t, "Set beyond", m.Set(0, p), api.ErrArg)
		}
		want(t, "Set beyond", m.Set(addrs, Place{0, 0}), api.ErrArg)
		want(t, "Drop beyond", m.Drop(addrs), api.ErrArg)
		want(t, "Drop", m.Drop(addrs-1), api.OK)
		set(t, m, 0, 0, 0)
		at(t, m, 0, 0, 0)
		on(t, m, 0, 0)
	}
}

// P7.1
func TestNewRefuses(t *testing.T) {
	far := []int{0, -1, math.MinInt, math.MaxInt, most + 1}
	for _, addrs := range append(far, 1, most) {
		for _, blocks := range append(far, 1, api.MaxBlocks, api.MaxBlocks+1) {
			if 1 <= addrs && addrs <= most && 1 <= blocks && blocks <= api.MaxBlocks {
				continue
			}
			if m, e := New(addrs, blocks); m != nil || e != api.ErrArg {
				t.Errorf("New(%d, %d) = %v, %d, want none, %d", addrs, blocks, m, e, api.ErrArg)
			}
		}
	}
}

// P7.1: an address is where it was set last, and nowhere else.
func TestSetMoves(t *testing.T) {
	m := fresh(t, 6, 4)
	set(t, m, 4, 1, 7)
	set(t, m, 4, 1, 7)
	at(t, m, 4, 1, 7)
	on(t, m, 1, 4)
	length(t, m, 1)
	set(t, m, 2, 1, 5)
	on(t, m, 1, 2, 4)
	set(t, m, 4, 1, 3)
	at(t, m, 4, 1, 3)
	on(t, m, 1, 4, 2)
	length(t, m, 2)
	set(t, m, 4, 3, 0)
	at(t, m, 4, 3, 0)
	at(t, m, 2, 1, 5)
	on(t, m, 1, 2)
	on(t, m, 3, 4)
	length(t, m, 2)
	set(t, m, 4, 0, 0)
	on(t, m, 3)
	on(t, m, 0, 4)
	set(t, m, 4, 1, 7)
	on(t, m, 0)
	on(t, m, 1, 2, 4)
	length(t, m, 2)
}

// P7.1
func TestDrop(t *testing.T) {
	m := fresh(t, 6, 4)
	want(t, "Drop of what is nowhere", m.Drop(5), api.OK)
	length(t, m, 0)
	set(t, m, 0, 0, 0)
	set(t, m, 5, 0, 1)
	set(t, m, 3, 2, 1)
	want(t, "Drop", m.Drop(0), api.OK)
	nowhereIs(t, m, 0)
	on(t, m, 0, 5)
	length(t, m, 2)
	want(t, "Drop again", m.Drop(0), api.OK)
	on(t, m, 0, 5)
	on(t, m, 2, 3)
	length(t, m, 2)
	set(t, m, 0, 2, 0)
	at(t, m, 0, 2, 0)
	on(t, m, 2, 0, 3)
	length(t, m, 3)
}

// P7.1: rising by the pages, not by the addresses, nor in the order in which they were set.
func TestOnRisesByPages(t *testing.T) {
	m := fresh(t, most, 3)
	for i, addr := range []int{500, 3, most - 1, 0, 77} {
		set(t, m, addr, 1, []int{9, 31, 0, 10, 2}[i])
	}
	set(t, m, 4, 0, 5)
	set(t, m, 5, 2, 5)
	on(t, m, 1, most-1, 77, 500, 0, 3)
	on(t, m, 0, 4)
	on(t, m, 2, 5)

	full := fresh(t, api.MaxBlocks*api.MaxPages, api.MaxBlocks)
	for addr := range api.MaxBlocks * api.MaxPages {
		set(t, full, addr, addr%api.MaxBlocks, api.MaxPages-1-addr/api.MaxBlocks)
	}
	for block := range api.MaxBlocks {
		l := full.On(block)
		for page, addr := range l {
			at(t, full, addr, block, page)
		}
		if len(l) != api.MaxPages || full.Count(block) != api.MaxPages {
			t.Errorf("block %d: %v, Count %d", block, l, full.Count(block))
		}
	}
	length(t, full, api.MaxBlocks*api.MaxPages)
}

// told: all that a map's calls tell of so many addresses and blocks.
func told(m *Map, addrs, blocks int) []any {
	out := []any{m.Len()}
	for addr := range addrs {
		p, ok := m.Get(addr)
		out = append(out, p, ok)
	}
	for block := range blocks {
		out = append(out, m.Count(block), len(m.On(block)))
		for _, addr := range m.On(block) {
			out = append(out, addr)
		}
	}
	return out
}

// P7.1: wrong addresses, blocks and pages; beside an error nothing has changed.
func TestRefuses(t *testing.T) {
	m := fresh(t, 6, 4)
	set(t, m, 0, 0, 0)
	set(t, m, 5, 3, 31)
	set(t, m, 1, 3, 4)
	before := told(m, 6, 4)
	for _, n := range []int{-1, math.MinInt, math.MaxInt, most} {
		for _, c := range []struct {
			addr int
			p    Place
		}{
			{n, Place{0, 0}}, {6, Place{0, 0}}, {n, Place{n, n}},
			{1, Place{n, 0}}, {1, Place{4, 0}}, {0, Place{n, 5}},
			{1, Place{1, n}}, {1, Place{1, 32}}, {5, Place{3, n}},
		} {
			want(t, "Set", m.Set(c.addr, c.p), api.ErrArg)
		}
		want(t, "Drop", m.Drop(n), api.ErrArg)
		nowhereIs(t, m, n)
		on(t, m, n)
	}
	want(t, "Drop", m.Drop(6), api.ErrArg)
	nowhereIs(t, m, 6)
	on(t, m, 4)
	if !slices.Equal(told(m, 6, 4), before) {
		t.Error("something has changed")
	}
}

// P7.1
func TestNil(t *testing.T) {
	var m *Map
	for _, n := range []int{0, 1, -1, math.MinInt, math.MaxInt} {
		want(t, "Set", m.Set(n, Place{n, n}), api.ErrNone)
		want(t, "Drop", m.Drop(n), api.ErrNone)
		nowhereIs(t, m, n)
		on(t, m, n)
	}
	length(t, m, 0)
}

// The rule of memory: what is answered is apart, from the map and from one another.
func TestMemory(t *testing.T) {
	m := fresh(t, 6, 2)
	set(t, m, 4, 1, 0)
	set(t, m, 2, 1, 1)
	l, other := m.On(1), m.On(1)
	l[0], l[1] = 0, 0
	_ = append(l, 5)
	if !slices.Equal(other, []int{4, 2}) {
		t.Errorf("another answer is %v", other)
	}
	on(t, m, 1, 4, 2)
	set(t, m, 4, 0, 0)
	if !slices.Equal(other, []int{4, 2}) {
		t.Errorf("an answer has become %v", other)
	}
}

// model: where each address is, by what it was told last.
type model map[int]Place

func (m model) on(block int) []int {
	var addrs []int
	for page := range api.MaxPages {
		for addr, p := range m {
			if p == (Place{block, page}) {
				addrs = append(addrs, addr)
			}
		}
	}
	return addrs
}

func (m model) taken(p Place) bool {
	for _, q := range m {
		if p == q {
			return true
		}
	}
	return false
}

// agrees: does a map tell what the model says?
func agrees(t *testing.T, m *Map, x model, addrs, blocks int) {
	t.Helper()
	length(t, m, len(x))
	for addr := range addrs {
		if p, ok := x[addr]; ok {
			at(t, m, addr, p.Block, p.Page)
		} else {
			nowhereIs(t, m, addr)
		}
	}
	for block := range blocks {
		on(t, m, block, x.on(block)...)
	}
}

// P7.1, P2: many calls, of which no two lay two addresses on one page, against a model; another map that is told the same answers the same.
func TestAgainstAModel(t *testing.T) {
	for seed := range int64(60) {
		src := rand.New(rand.NewSource(seed))
		addrs, blocks := 1+src.Intn(40), 1+src.Intn(5)
		m, same, x := fresh(t, addrs, blocks), fresh(t, addrs, blocks), model{}
		for range 80 {
			addr, p := src.Intn(addrs), Place{src.Intn(blocks), src.Intn(api.MaxPages)}
			switch {
			case src.Intn(4) == 0:
				want(t, "Drop", m.Drop(addr), api.OK)
				same.Drop(addr)
				delete(x, addr)
			case !x.taken(p):
				set(t, m, addr, p.Block, p.Page)
				same.Set(addr, p)
				x[addr] = p
			}
			agrees(t, m, x, addrs, blocks)
		}
		if !slices.Equal(told(m, addrs, blocks), told(same, addrs, blocks)) {
			t.Errorf("seed %d: told the same, two maps answer otherwise", seed)
		}
		if t.Failed() {
			t.Fatalf("seed %d", seed)
		}
	}
}

// P1, P2: of two addresses on one page nothing is promised but that the calls end, and answer the same again.
func TestCallsEndAtAllArguments(t *testing.T) {
	numbers := []int{math.MinInt, -1, 0, 1, 2, 31, 32, 63, 64, 1 << 40, math.MaxInt}
	m, same := fresh(t, 40, 64), fresh(t, 40, 64)
	for _, addr := range numbers {
		for _, block := range numbers {
			for _, page := range numbers {
				if m.Set(addr, Place{block, page}) != same.Set(addr, Place{block, page}) {
					t.Error("answered otherwise")
				}
			}
			if m.Count(block) != same.Count(block) || !slices.Equal(m.On(block), same.On(block)) {
				t.Error("answered otherwise")
			}
		}
		if m.Len() != same.Len() {
			t.Error("answered otherwise")
		}
	}
	if !slices.Equal(told(m, 40, 64), told(same, 40, 64)) {
		t.Error("answered otherwise")
	}
	for _, addr := range numbers {
		if m.Drop(addr) != same.Drop(addr) {
			t.Error("answered otherwise")
		}
	}
	length(t, m, 0)
}
