package scan

import (
	"cmp"
	"maps"
	"math/rand"
	"slices"
	"testing"

	"drawbar/api"
	"drawbar/nand"
	"drawbar/plan"
	"drawbar/pmap"
	"drawbar/sheet"
)

// all: what an array holds; pages and map must agree, and each page be one of its block.
func all(t *testing.T, what string, a *nand.Array, g api.Geometry) State {
	t.Helper()
	s, e := All(a, g)
	if e != api.OK || s.Map == nil || s.Map.Len() != len(s.Pages) {
		t.Fatalf("%s: All = %v, %d", what, s, e)
	}
	for addr, f := range s.Pages {
		found, _ := Block(a, g, f.At.Block)
		n := slices.IndexFunc(found, func(x Found) bool { return x.At == f.At })
		if at, ok := s.Map.Get(addr); !ok || at != f.At || addr != f.S.Addr || n < 0 || !same(found[n].S, f.S) {
			t.Errorf("%s: of %d: %v, the map %v", what, addr, f, at)
		}
	}
	return s
}

// holds holds what All answers against a greatest number, spoilt blocks, and places.
func holds(t *testing.T, what string, a *nand.Array, g api.Geometry, seq uint64, spoil []int, at map[int]pmap.Place) State {
	t.Helper()
	s := all(t, what, a, g)
	got := map[int]pmap.Place{}
	for addr, f := range s.Pages {
		got[addr] = f.At
	}
	if s.Seq != seq || !slices.Equal(s.Spoil, spoil) || !maps.Equal(got, at) {
		t.Errorf("%s: Seq %d, Spoil %v, at %v, want %d, %v, %v", what, s.Seq, s.Spoil, got, seq, spoil, at)
	}
	return s
}

// P9.2: the document's example; the map is of all addresses and blocks there can be.
func TestErased(t *testing.T) {
	for _, g := range geometries() {
		a := fresh(t, g)
		s := holds(t, "erased", a, g, 0, nil, nil)
		last := pmap.Place{Block: g.Blocks - 1, Page: g.Pages - 1}
		if e := s.Map.Set(plan.Meta(g), last); e != api.OK {
			t.Errorf("the map's last address and block: %d", e)
		}
		if s.Map.Set(plan.Meta(g)+1, last) != api.ErrArg || s.Map.Set(0, pmap.Place{Block: g.Blocks}) != api.ErrArg {
			t.Error("the map has more")
		}
	}
}

// P9.2: of each address the page of the greatest number, wherever it is; holes too, and the number 0.
func TestNewest(t *testing.T) {
	a := fresh(t, small)
	put(t, a, 5, value(0, 3, "z"))
	holds(t, "number 0", a, small, 0, nil, map[int]pmap.Place{3: {Block: 5, Page: 0}})
	put(t, a, 2, value(9, 0, "a"), value(2, 1, "b"), value(5, 1, "c"))
	put(t, a, 4, value(4, 1, "d"), hole(10, 0, -1))
	put(t, a, 5, value(1<<48-1, 4, "m"))
	s := holds(t, "newest", a, small, 1<<48-1, nil, map[int]pmap.Place{
		0: {Block: 4, Page: 1}, 1: {Block: 2, Page: 2}, 3: {Block: 5, Page: 0}, 4: {Block: 5, Page: 1},
	})
	if s.Pages[0].S.Kind != sheet.Hole || string(s.Pages[1].S.Data) != "c" || s.Map.Count(2) != 1 {
		t.Errorf("Pages = %v", s.Pages)
	}
}

// P9.2: what stands on the blocks of claims, and on bad ones, plays no part.
func TestBlocksThatAreNotUsable(t *testing.T) {
	g := api.Geometry{Blocks: 7, Pages: 3, Bad: []int{4}}
	a, _ := nand.New(7, 3, nil)
	for _, i := range []int{0, 1, 4} {
		put(t, a, i, value(50, 0, "a"), value(51, 1, "b"))
	}
	put(t, a, 2, value(1, 0, "x"))
	holds(t, "not usable", a, g, 1, nil, map[int]pmap.Place{0: {Block: 2, Page: 0}})
	for i, from := range []int{0, 1, 4} {
		put(t, a, []int{3, 5, 6}[i], copied(60+uint64(i), i, from, string("ab"[i%2])))
	}
	holds(t, "copies of such", a, g, 62, nil, map[int]pmap.Place{0: {Block: 3, Page: 0}, 1: {Block: 5, Page: 0}, 2: {Block: 6, Page: 0}})
}

// P9.2: the beginning of a copying; all that is asked of one. The block 2 has the pages 0 "a", 1 none, 2 a hole.
func TestSpoil(t *testing.T) {
	cases := []struct {
		what   string
		copies []sheet.Sheet
		spoilt bool
	}{
		{"one", []sheet.Sheet{copied(20, 0, 2, "a")}, true},
		{"another", []sheet.Sheet{copied(20, 1, 2, "")}, true},
		{"a hole", []sheet.Sheet{hole(20, 2, 2)}, true},
		{"all", []sheet.Sheet{copied(20, 0, 2, "a"), copied(21, 1, 2, ""), hole(22, 2, 2)}, true},
		{"one twice", []sheet.Sheet{copied(20, 0, 2, "a"), copied(21, 0, 2, "a")}, true},
		{"one more by number", []sheet.Sheet{copied(11, 0, 2, "a")}, true},
		{"no copy", []sheet.Sheet{value(20, 0, "a")}, false},
		{"no copy first", []sheet.Sheet{value(20, 1, "x"), copied(21, 0, 2, "a")}, false},
		{"no copy last", []sheet.Sheet{copied(20, 0, 2, "a"), value(21, 1, "x")}, false},
		{"the same number", []sheet.Sheet{copied(12, 2, 2, "a"), copied(10, 0, 2, "a")}, false},
		{"a lesser number", []sheet.Sheet{copied(9, 0, 2, "a")}, false},
		{"another address", []sheet.Sheet{copied(20, 1, 2, "a")}, false},
		{"no such address", []sheet.Sheet{copied(20, 3, 2, "a")}, false},
		{"other data", []sheet.Sheet{copied(20, 0, 2, "b")}, false},
		{"fewer data", []sheet.Sheet{copied(20, 0, 2, "")}, false},
		{"more data", []sheet.Sheet{copied(20, 0, 2, "aa")}, false},
		{"another kind", []sheet.Sheet{hole(20, 1, 2)}, false},
		{"a value of a hole", []sheet.Sheet{copied(20, 2, 2, "")}, false},
		{"of another block", []sheet.Sheet{copied(20, 0, 4, "a")}, false},
		{"of two blocks", []sheet.Sheet{copied(20, 0, 2, "a"), copied(21, 4, 4, "m")}, false},
		{"of no block of the array", []sheet.Sheet{copied(20, 0, 63, "a")}, false},
		{"of its own", []sheet.Sheet{copied(20, 0, 3, "a"), copied(21, 0, 3, "a")}, false},
		{"the last not", []sheet.Sheet{copied(20, 0, 2, "a"), copied(21, 1, 2, "x")}, false},
	}
	for _, c := range cases {
		a := fresh(t, small)
		put(t, a, 2, value(10, 0, "a"), value(11, 1, ""), hole(12, 2, -1))
		put(t, a, 4, value(5, 4, "m"))
		put(t, a, 3, c.copies...)
		s := all(t, c.what, a, small)
		if got := slices.Equal(s.Spoil, []int{3}); got != c.spoilt || !c.spoilt && len(s.Spoil) != 0 {
			t.Errorf("%s: Spoil = %v, want block 3: %t", c.what, s.Spoil, c.spoilt)
		}
		if c.spoilt && (s.Map.Count(3) != 0 || s.Map.Count(2) != 3 || s.Seq != max(12, c.copies[len(c.copies)-1].Seq)) {
			t.Errorf("%s: a spoilt block's pages count, or its numbers don't: %v", c.what, s)
		}
		if !c.spoilt && s.Map.Count(3) == 0 && c.copies[0].Seq > 12 {
			t.Errorf("%s: block 3 doesn't count: %v", c.what, s)
		}
	}
}

// P9.2: an epoch may be another one, and a torn page plays no part.
func TestSpoilLooksAtNoMore(t *testing.T) {
	a := fresh(t, small)
	put(t, a, 2, value(1, 0, "a"), copied(2, 1, 5, "b"))
	raw(t, a, 3, torn(copied(3, 0, 2, "a"), 40))
	s := copied(4, 0, 2, "a")
	s.Epoch = 1
	put(t, a, 3, s, copied(5, 1, 2, "b"))
	holds(t, "torn first", a, small, 5, []int{3}, map[int]pmap.Place{0: {Block: 2, Page: 0}, 1: {Block: 2, Page: 1}})

	raw(t, a, 4, torn(copied(6, 0, 2, "a"), 95))
	holds(t, "but torn pages", a, small, 5, []int{3}, map[int]pmap.Place{0: {Block: 2, Page: 0}, 1: {Block: 2, Page: 1}})
}

// P9.2: that from which it was copied needn't be the newest, but whole: of an erased block, or of one whose erasing was cut, no page stands.
func TestSourceIsGone(t *testing.T) {
	a := fresh(t, small)
	put(t, a, 2, value(1, 0, "a"))
	put(t, a, 3, copied(3, 0, 2, "a"))
	put(t, a, 4, value(9, 0, "b"))
	holds(t, "not the newest", a, small, 9, []int{3}, map[int]pmap.Place{0: {Block: 4, Page: 0}})
	tear(t, a, 2)
	holds(t, "torn", a, small, 9, nil, map[int]pmap.Place{0: {Block: 4, Page: 0}})
	a.Erase(2, 0)
	a.Erase(4, 0)
	holds(t, "erased", a, small, 3, nil, map[int]pmap.Place{0: {Block: 3, Page: 0}})
}

// P9.2: blocks are looked at one by one, rising; on those told ahead nothing stands any more.
func TestSpoilOneByOne(t *testing.T) {
	g := api.Geometry{Blocks: 8, Pages: 4, Spare: 1}
	a := fresh(t, g)
	put(t, a, 2, value(1, 0, "a"))
	put(t, a, 3, copied(2, 0, 2, "a"))
	put(t, a, 4, copied(3, 0, 3, "a"))
	put(t, a, 5, copied(4, 0, 3, "a"))
	holds(t, "of a block told ahead", a, g, 4, []int{3}, map[int]pmap.Place{0: {Block: 5, Page: 0}})

	a = fresh(t, g)
	put(t, a, 7, value(1, 0, "a"))
	put(t, a, 6, copied(2, 0, 7, "a"))
	put(t, a, 5, copied(3, 0, 6, "a"))
	put(t, a, 2, copied(4, 0, 5, "a"))
	holds(t, "of blocks told behind", a, g, 4, []int{2, 5, 6}, map[int]pmap.Place{0: {Block: 7, Page: 0}})

	a = fresh(t, g)
	put(t, a, 2, copied(2, 0, 3, "a"))
	put(t, a, 3, value(1, 0, "a"), copied(3, 0, 2, "a"))
	holds(t, "one of the other", a, g, 3, []int{2}, map[int]pmap.Place{0: {Block: 3, Page: 1}})

	a = fresh(t, g)
	put(t, a, 2, copied(2, 0, 4, "a"), copied(4, 1, 4, "b"))
	put(t, a, 3, copied(5, 0, 2, "a"))
	put(t, a, 4, value(1, 0, "a"), value(3, 1, "b"))
	holds(t, "the source is told", a, g, 5, []int{2}, map[int]pmap.Place{0: {Block: 3, Page: 0}, 1: {Block: 4, Page: 1}})
}

// P9.2: each operation of a copying is cut, in each way: of each address there is what was.
func TestCutCopying(t *testing.T) {
	for n := 1; n <= 5; n++ {
		for _, cut := range []int{-1, 0, 1, 50, api.PageSize - 1, api.PageSize, 1000} {
			a := fresh(t, small)
			put(t, a, 4, value(1, 0, "a"), hole(2, 1, -1), value(3, 2, ""))
			a.Arm(n)
			copyBlock(a, 4, 2)
			a.Restart(cut)
			s := all(t, "cut", a, small)
			if string(s.Pages[0].S.Data) != "a" || s.Pages[1].S.Kind != sheet.Hole || s.Pages[2].S.Kind != sheet.Value || len(s.Pages) != 3 {
				t.Errorf("cut in %d, by %d: %v", n, cut, s)
			}
			begun := n > 2 || n == 2 || cut >= api.PageSize // is a copy whole?
			over := n == 5 || n == 4 && cut > 0             // is what was copied gone?
			if spoilt := len(s.Spoil) == 1; spoilt != (begun && !over) {
				t.Errorf("cut in %d, by %d: Spoil = %v", n, cut, s.Spoil)
			}
		}
	}
}

// copyBlock copies a block's pages, and erases it, as far as the power lasts.
func copyBlock(a *nand.Array, from, to int) {
	found, _ := Block(a, small, from)
	for i, f := range found {
		f.S.From, f.S.Seq = from, 10+uint64(i)
		a.Program(to, a.Next(to), sheet.Lay(f.S), 0)
	}
	a.Erase(from, 0)
}

// page is one of a model's: a sheet where it stands.
type page struct {
	block, page int
	s           sheet.Sheet
}

// grow lays pages at random on an array: few addresses and data, so that many are copies, and many stand still.
func grow(t *testing.T, src *rand.Rand, a *nand.Array, g api.Geometry) []page {
	var laid []page
	numbers := src.Perm(200)
	usable := plan.Usable(g)
	for n := range src.Intn(25) {
		b := usable[src.Intn(len(usable))]
		if a.Next(b) == a.Pages() {
			continue
		}
		s := copied(uint64(numbers[n]), src.Intn(2), -1, string("ab"[src.Intn(2)]))
		if len(laid) > 0 && src.Intn(4) > 0 {
			was := laid[src.Intn(len(laid))]
			s.Kind, s.Addr, s.Data, s.From = was.s.Kind, was.s.Addr, was.s.Data, was.block
		} else if src.Intn(4) == 0 {
			s = hole(s.Seq, s.Addr, -1)
		}
		laid = append(laid, page{b, a.Next(b), s})
		put(t, a, b, s)
	}
	return laid
}

// spoilOf: the spoilt blocks, by the document's words, out of a plain list of pages.
func spoilOf(laid []page) []int {
	var told []int
	for b := range api.MaxBlocks {
		froms, pages, stand := map[int]int{}, 0, 0
		for _, p := range laid {
			if p.block != b {
				continue
			}
			pages++
			froms[p.s.From]++
			if slices.ContainsFunc(laid, func(q page) bool {
				return q.block == p.s.From && !slices.Contains(told, q.block) && q.s.Kind == p.s.Kind &&
					q.s.Addr == p.s.Addr && string(q.s.Data) == string(p.s.Data) && q.s.Seq < p.s.Seq
			}) {
				stand++
			}
		}
		if pages > 0 && len(froms) == 1 && froms[-1] == 0 && stand == pages {
			told = append(told, b)
		}
	}
	return told
}

// P9.2: held against a plain model.
func TestModel(t *testing.T) {
	gs := geometries()[:4]
	seen := 0
	for seed := range int64(4000) {
		src := rand.New(rand.NewSource(seed))
		g := gs[src.Intn(len(gs))]
		a := fresh(t, g)
		laid := grow(t, src, a, g)
		slices.SortFunc(laid, func(x, y page) int { return cmp.Compare(x.s.Seq, y.s.Seq) })
		spoil, at, seq := spoilOf(laid), map[int]pmap.Place{}, uint64(0)
		for _, p := range laid {
			seq = p.s.Seq
			if !slices.Contains(spoil, p.block) {
				at[p.s.Addr] = pmap.Place{Block: p.block, Page: p.page}
			}
		}
		seen += len(spoil)
		holds(t, "model", a, g, seq, spoil, at)
		if t.Failed() {
			t.Fatalf("seed %d", seed)
		}
	}
	if seen < 200 {
		t.Errorf("but %d spoilt blocks were seen", seen)
	}
}
