package ftl

import (
	"math/rand"
	"slices"
	"testing"

	"drawbar/api"
	"drawbar/nand"
	"drawbar/plan"
	"drawbar/sheet"
)

// P10.3: page by page, block by block, as long as more are free than must be.
func TestPagesOneBehindAnother(t *testing.T) {
	a := fresh(t, small)
	f := mount(t, a, small, 1)
	for i, free := range []int{4, 4, 4, 3, 3, 3, 2, 2, 2} {
		writes(t, f, byte('a'+i), i%8)
		if f.Free() != free || a.Ops() != i+1 {
			t.Errorf("behind %d: Free = %d, want %d; %d operations", i+1, f.Free(), free, a.Ops())
		}
	}
	lies(t, "first", a, 2, value(1, 0, "a"), value(2, 1, "b"), value(3, 2, "c"))
	lies(t, "second", a, 3, value(4, 3, "d"), value(5, 4, "e"), value(6, 5, "f"))
	lies(t, "third", a, 4, value(7, 6, "g"), value(8, 7, "h"), value(9, 0, "i"))
}

// P10.3: a block of which no page counts is erased, and not copied; it isn't the next one, since others were erased fewer times.
func TestNothingCounts(t *testing.T) {
	a := fresh(t, small)
	f := mount(t, a, small, 1)
	writes(t, f, 'a', 0, 0, 0, 0, 0, 0, 0, 0, 0, 0)
	if a.Ops() != 11 || a.Erases(2) != 1 {
		t.Errorf("%d operations", a.Ops())
	}
	lies(t, "erased", a, 2)
	lies(t, "not erased", a, 3, value(4, 0, "d"), value(5, 0, "e"), value(6, 0, "f"))
	lies(t, "open", a, 5, value(10, 0, "j"))
	counts(t, "erased", f, 0, 2, 1)
	writes(t, f, 'k', 0, 0, 0, 0, 0, 0)
	lies(t, "the last that never was erased", a, 6, value(13, 0, "m"), value(14, 0, "n"), value(15, 0, "o"))
	lies(t, "of those erased once the first", a, 2, value(16, 0, "p"))
}

// filled: an array whose free blocks, 5 and 6, are no more than must be; the block 2 has the fewest pages that count: 1 and 2.
func filled(t *testing.T) (*nand.Array, *FTL) {
	t.Helper()
	a := fresh(t, small)
	f := mount(t, a, small, 1)
	writes(t, f, 'a', 0, 1, 2, 3, 4, 5, 6, 7, 0)
	counts(t, "filled", f, 0, 2, 8)
	return a, f
}

// P10.3: a copying.
func TestCopying(t *testing.T) {
	a, f := filled(t)
	writes(t, f, 'z', 7)
	lies(t, "what was copied", a, 2)
	lies(t, "copies", a, 5, copied(10, 1, 2, "b"), copied(11, 2, 2, "c"), value(12, 7, "z"))
	lies(t, "nothing else", a, 6)
	counts(t, "copied", f, 0, 2, 8)
	if a.Ops() != 13 || a.Erases(2) != 1 {
		t.Errorf("%d operations", a.Ops())
	}
	for addr, data := range []string{"i", "b", "c", "d", "e", "f", "g", "z"} {
		reads(t, f, addr, data)
	}
}

// P10.3: Holes are copied too, and copies are in the name of the epoch that copies.
func TestCopyingOfHoles(t *testing.T) {
	a := fresh(t, small)
	f := mount(t, a, small, 1)
	writes(t, f, 'a', 0, 1)
	want(t, "Trim", f.Trim(1), api.OK)
	writes(t, f, 'd', 3, 4, 5, 6, 7, 2)
	f = mount(t, a, small, 8)
	writes(t, f, 'z', 7)
	was := []sheet.Sheet{copied(10, 0, 2, "a"), hole(11, 1, 2), value(12, 7, "z")}
	for i := range was {
		was[i].Epoch = 8
	}
	lies(t, "copies", a, 5, was...)
	reads(t, f, 1, "")
	reads(t, mount(t, a, small, 9), 1, "")
}

// P10.3: of several with the fewest pages the first is copied.
func TestCopyingOfTheFirst(t *testing.T) {
	a := fresh(t, small)
	f := mount(t, a, small, 1)
	writes(t, f, 'a', 0, 1, 2, 3, 4, 5, 0, 3, 6, 7)
	lies(t, "the first", a, 2)
	lies(t, "the second", a, 3, value(4, 3, "d"), value(5, 4, "e"), value(6, 5, "f"))
	lies(t, "copies", a, 5, copied(10, 1, 2, "b"), copied(11, 2, 2, "c"), value(12, 7, "j"))
}

// P10.3: the fewest are not the first.
func TestCopyingOfTheFewest(t *testing.T) {
	a := fresh(t, small)
	f := mount(t, a, small, 1)
	writes(t, f, 'a', 0, 1, 2, 3, 4, 5, 3, 4, 0, 7)
	lies(t, "fewer", a, 3)
	lies(t, "copies", a, 5, copied(10, 5, 3, "f"), value(11, 7, "j"))
	lies(t, "more", a, 2, value(1, 0, "a"), value(2, 1, "b"), value(3, 2, "c"))
}

// P10.3: the block that is open fails: its pages stay, and count.
func TestTheOpenBlockFails(t *testing.T) {
	a := fresh(t, small)
	f := mount(t, a, small, 1)
	a.Doom(2, 2)
	writes(t, f, 'a', 0, 1)
	lies(t, "failed", a, 2, value(1, 0, "a"), none())
	lies(t, "done anew", a, 3, value(3, 1, "b"))
	counts(t, "failed", f, 1, 3, 2)
	reads(t, f, 0, "a")
	f = mount(t, a, small, 1)
	counts(t, "mounted", f, 1, 3, 2)
	reads(t, f, 0, "a")
	writes(t, f, 'c', 1)
	lies(t, "goes on", a, 3, value(3, 1, "b"), value(4, 1, "c"))
}

// P10.3: where the copies go fails: the rest goes to another block.
func TestTheCopiesBlockFails(t *testing.T) {
	for n := 1; n <= 3; n++ {
		a, f := filled(t)
		a.Doom(5, n)
		writes(t, f, 'z', 7)
		lies(t, "what was copied", a, 2)
		switch n {
		case 1:
			lies(t, "failed at once", a, 5, none())
			lies(t, "all", a, 6, copied(11, 1, 2, "b"), copied(12, 2, 2, "c"), value(13, 7, "z"))
		case 2:
			lies(t, "failed", a, 5, copied(10, 1, 2, "b"), none())
			lies(t, "the rest", a, 6, copied(12, 2, 2, "c"), value(13, 7, "z"))
		case 3:
			lies(t, "failed behind the copies", a, 5, copied(10, 1, 2, "b"), copied(11, 2, 2, "c"), none())
			lies(t, "the rest", a, 2)
			lies(t, "the page", a, 6, value(13, 7, "z"))
		}
		counts(t, "failed", f, 1, 1, 8)
		for range 2 {
			for addr, data := range []string{"i", "b", "c", "d", "e", "f", "g", "z"} {
				reads(t, f, addr, data)
			}
			f = mount(t, a, small, 1)
		}
	}
}

// P10.3: what was copied can't be erased: it is dead. Behind a Mount it counts again, since the copies are but copies.
func TestTheCopiedBlockFails(t *testing.T) {
	a, f := filled(t)
	a.Doom(2, 1)
	writes(t, f, 'z', 7)
	lies(t, "failed", a, 2, value(1, 0, "a"), value(2, 1, "b"), value(3, 2, "c"))
	lies(t, "copies", a, 5, copied(10, 1, 2, "b"), copied(11, 2, 2, "c"), value(12, 7, "z"))
	counts(t, "failed", f, 1, 1, 8)
	f = mount(t, a, small, 1)
	counts(t, "mounted", f, 1, 1, 8)
	reads(t, f, 1, "b")

	a, f = filled(t)
	a.Doom(2, 1)
	a.Arm(4)
	want(t, "Write", f.Write(7, []byte("z")), api.ErrCrash)
	a.Restart(0)
	f = mount(t, a, small, 1)
	counts(t, "but copies", f, 1, 2, 8)
	lies(t, "but copies", a, 5)
	for addr, data := range []string{"i", "b", "c", "d", "e", "f", "g", "h"} {
		reads(t, f, addr, data)
	}
	writes(t, f, 'z', 7)
	lies(t, "more are free than must be", a, 6, value(12, 7, "z"))
}

// P10.3: more than Spare are dead: ErrFull where a block would have to be opened, and not before.
func TestFull(t *testing.T) {
	a := fresh(t, small)
	f := mount(t, a, small, 1)
	a.Doom(2, 1)
	a.Doom(3, 1)
	want(t, "two fail", f.Write(0, nil), api.ErrFull)
	counts(t, "full", f, 2, 3, 0)
	if a.Ops() != 2 {
		t.Errorf("%d operations", a.Ops())
	}
	want(t, "still", f.Write(1, nil), api.ErrFull)
	want(t, "Trim of none", f.Trim(0), api.OK)
	want(t, "too much", f.Write(0, make([]byte, 65)), api.ErrLong)
	want(t, "no such address", f.Write(8, nil), api.ErrArg)
	a.Raise(7)
	want(t, "below the fence too", f.Write(0, nil), api.ErrFull)
	off(t, a)
	want(t, "without power too", f.Write(0, nil), api.ErrFull)

	a = fresh(t, small)
	writes(t, mount(t, a, small, 1), 'a', 0)
	fail(t, a, 4, 5)
	f = mount(t, a, small, 1)
	counts(t, "one is open", f, 2, 2, 1)
	writes(t, f, 'b', 1)
	want(t, "Trim", f.Trim(0), api.OK)
	before := told(f, a, small)
	for range 3 {
		want(t, "Write", f.Write(0, []byte("!")), api.ErrFull)
		want(t, "Trim", f.Trim(1), api.ErrFull)
	}
	if !slices.Equal(told(f, a, small), before) {
		t.Error("something has changed")
	}
	lies(t, "full", a, 2, value(1, 0, "a"), value(2, 1, "b"), hole(3, 0, -1))
	f = mount(t, a, small, 2)
	want(t, "mounted", f.Write(0, nil), api.ErrFull)
	reads(t, f, 1, "b")
}

// P10.3: one more than Spare fails within a copying.
func TestFullInACopying(t *testing.T) {
	a, f := filled(t)
	a.Doom(5, 2)
	a.Doom(6, 1)
	want(t, "no block is left", f.Write(7, []byte("z")), api.ErrFull)
	counts(t, "no block is left", f, 2, 0, 8)
	want(t, "again", f.Write(7, []byte("z")), api.ErrFull)
	for range 2 {
		for addr, data := range []string{"i", "b", "c", "d", "e", "f", "g", "h"} {
			reads(t, f, addr, data)
		}
		f = mount(t, a, small, 2)
	}

	a, f = filled(t)
	a.Doom(5, 1)
	a.Doom(2, 1)
	writes(t, f, 'z', 7)
	counts(t, "but one is open", f, 2, 0, 8)
	lies(t, "but one is open", a, 6, copied(11, 1, 2, "b"), copied(12, 2, 2, "c"), value(13, 7, "z"))
	want(t, "and full", f.Write(7, []byte("y")), api.ErrFull)
	reads(t, f, 7, "z")
}

// P10.3: an array that no FTL has left so: nothing is free.
func TestNothingIsFree(t *testing.T) {
	a := fresh(t, small)
	for b := 2; b < 7; b++ {
		put(t, a, b, value(uint64(b), b, "x"), none(), none())
	}
	f := mount(t, a, small, 1)
	ops := a.Ops()
	want(t, "nothing is free", f.Write(0, nil), api.ErrFull)
	want(t, "nothing is free", f.Trim(2), api.ErrFull)
	off(t, a)
	want(t, "nor is the power on", f.Write(0, nil), api.ErrFull)
	if a.Ops() != ops+1 {
		t.Error("something was tried")
	}
	a.Restart(0)
	f = mount(t, a, small, 1)
	reads(t, f, 6, "x")
	counts(t, "nothing is free", f, 0, 0, 5)
}

// model is an array and how its blocks stand, by the document's words alone: where an address's page is isn't kept, but looked for.
type model struct {
	g      api.Geometry
	blocks [api.MaxBlocks]modelBlock
	seq    uint64
}

type modelBlock struct {
	how    string // usable blocks': free, used, open, dead
	pages  []sheet.Sheet
	erases int
	doom   int
}

func newModel(g api.Geometry) *model {
	m := &model{g: g}
	for b := api.LogBlocks; b < g.Blocks; b++ {
		if !slices.Contains(g.Bad, b) {
			m.blocks[b].how = "free"
		}
	}
	return m
}

func (m *model) those(how string) []int {
	var out []int
	for b := range m.blocks {
		if m.blocks[b].how == how {
			out = append(out, b)
		}
	}
	return out
}

// now: the page that counts of an address.
func (m *model) now(addr int) (block, page int, ok bool) {
	most := uint64(0)
	for b := range m.blocks {
		for p, s := range m.blocks[b].pages {
			if s.Kind != 0 && s.Addr == addr && s.Seq > most {
				block, page, ok, most = b, p, true, s.Seq
			}
		}
	}
	return block, page, ok
}

// counting: the pages of a block that count.
func (m *model) counting(b int) []sheet.Sheet {
	var out []sheet.Sheet
	for p, s := range m.blocks[b].pages {
		if at, page, ok := m.now(s.Addr); ok && s.Kind != 0 && at == b && page == p {
			out = append(out, s)
		}
	}
	return out
}

// fails counts an operation at a block.
func (m *model) fails(b int) bool {
	x := &m.blocks[b]
	if x.doom > 1 {
		x.doom--
		return false
	}
	return x.doom == 1
}

func (m *model) program(b int, s sheet.Sheet) bool {
	m.seq++
	s.Seq, s.Epoch = m.seq, 1
	if m.fails(b) {
		m.blocks[b].pages = append(m.blocks[b].pages, none())
		m.blocks[b].how = "dead"
		return false
	}
	m.blocks[b].pages = append(m.blocks[b].pages, s)
	return true
}

func (m *model) erase(b int) {
	if m.fails(b) {
		m.blocks[b].how = "dead"
		return
	}
	m.blocks[b] = modelBlock{how: "free", erases: m.blocks[b].erases + 1, doom: m.blocks[b].doom}
}

// freshest: the free block that was erased the fewest times; -1: none.
func (m *model) freshest() int {
	out := -1
	for _, b := range m.those("free") {
		if out < 0 || m.blocks[b].erases < m.blocks[out].erases {
			out = b
		}
	}
	return out
}

// copying: false: there is no such block.
func (m *model) copying() bool {
	from := -1
	for _, b := range m.those("used") {
		if from < 0 || len(m.counting(b)) < len(m.counting(from)) {
			from = b
		}
	}
	if from < 0 {
		return false
	}
	pages := m.counting(from)
	if len(pages) == 0 {
		m.erase(from)
		return true
	}
	to := m.freshest()
	for _, s := range pages {
		s.From = from
		for {
			if to < 0 {
				return false
			}
			if m.program(to, s) {
				break
			}
			to = m.freshest()
		}
	}
	m.erase(from)
	m.blocks[to].how = "open"
	return true
}

// put: false: ErrFull.
func (m *model) put(s sheet.Sheet) bool {
	for {
		if open := m.those("open"); len(open) > 0 {
			b := open[0]
			if len(m.blocks[b].pages) == m.g.Pages {
				m.blocks[b].how = "used"
			} else if m.program(b, s) {
				return true
			}
			continue
		}
		dead := len(m.those("dead"))
		switch {
		case dead > m.g.Spare:
			return false
		case len(m.those("free")) > plan.Reserve(m.g, dead):
			m.blocks[m.freshest()].how = "open"
		case !m.copying():
			return false
		}
	}
}

// agrees holds an array and its FTL against the model.
func (m *model) agrees(t *testing.T, a *nand.Array, f *FTL) {
	t.Helper()
	held := 0
	for addr := range plan.Meta(m.g) + 1 {
		b, p, ok := m.now(addr)
		if !ok {
			reads(t, f, addr, "")
			continue
		}
		held++
		reads(t, f, addr, string(m.blocks[b].pages[p].Data))
	}
	counts(t, "model", f, len(m.those("dead")), len(m.those("free")), held)
	for _, b := range plan.Usable(m.g) {
		lies(t, "model", a, b, m.blocks[b].pages...)
		if x := m.blocks[b]; a.Erases(b) != x.erases || a.Failed(b) != (x.how == "dead") {
			t.Errorf("block %d: %d erases, failed %t, want %d, %s", b, a.Erases(b), a.Failed(b), x.erases, x.how)
		}
	}
}

// P10.3: page by page as the model tells, blocks failing as they will.
func TestModel(t *testing.T) {
	gs := geometries()
	full := 0
	for seed := range int64(250) {
		src := rand.New(rand.NewSource(seed))
		g := gs[src.Intn(len(gs))]
		a := fresh(t, g)
		f, m := mount(t, a, g, 1), newModel(g)
		addrs := 1 + src.Intn(plan.Meta(g)+1)
		for _, b := range plan.Usable(g) {
			if src.Intn(3) == 0 {
				m.blocks[b].doom = 1 + src.Intn(50)
				a.Doom(b, m.blocks[b].doom)
			}
		}
		for i := range 150 {
			addr, kind, e := src.Intn(addrs), sheet.Value, api.OK
			data := []byte{byte(i), byte(addr)}
			if src.Intn(5) == 0 {
				kind, data, e = sheet.Hole, nil, f.Trim(addr)
			} else {
				e = f.Write(addr, data)
			}
			_, _, there := m.now(addr)
			done := kind == sheet.Hole && !there || m.put(sheet.Sheet{Kind: kind, Addr: addr, From: -1, Data: data})
			if done != (e == api.OK) || !done && e != api.ErrFull {
				t.Errorf("%d: %d", i, e)
			}
			if !done {
				full++
			}
			m.agrees(t, a, f)
			if t.Failed() {
				t.Fatalf("seed %d, %d", seed, i)
			}
		}
	}
	if full < 100 {
		t.Errorf("ErrFull was met but %d times", full)
	}
}
