package pool

import (
	"math"
	"math/rand"
	"slices"
	"testing"

	"drawbar/api"
)

func fresh(t *testing.T, blocks ...int) *Pool {
	t.Helper()
	p, e := New(blocks)
	if e != api.OK || p == nil {
		t.Fatalf("New(%v) = %v, %d", blocks, p, e)
	}
	return p
}

// want holds what a call answered against what it should.
func want(t *testing.T, what string, got, want api.Errno) {
	t.Helper()
	if got != want {
		t.Errorf("%s: %d, want %d", what, got, want)
	}
}

func set(t *testing.T, p *Pool, b int, how byte) {
	t.Helper()
	want(t, "Set", p.Set(b, how), api.OK)
}

// stand: how blocks stand, one by one.
func stand(t *testing.T, p *Pool, want map[int]byte) {
	t.Helper()
	for b, how := range want {
		if p.How(b) != how {
			t.Errorf("How(%d) = %d, want %d", b, p.How(b), how)
		}
	}
}

// counts: how many stand so, by the standings.
func counts(t *testing.T, p *Pool, want ...int) {
	t.Helper()
	for how, n := range want {
		if p.Count(byte(how)) != n {
			t.Errorf("Count(%d) = %d, want %d", how, p.Count(byte(how)), n)
		}
	}
}

func opens(t *testing.T, p *Pool, want int, wantOk bool) {
	t.Helper()
	if b, ok := p.Open(); b != want || ok != wantOk {
		t.Errorf("Open = %d, %t, want %d, %t", b, ok, want, wantOk)
	}
}

func least(t *testing.T, p *Pool, how byte, weight []int, want int, wantOk bool) {
	t.Helper()
	if b, ok := p.Least(how, weight); b != want || ok != wantOk {
		t.Errorf("Least(%d, %v) = %d, %t, want %d, %t", how, weight, b, ok, want, wantOk)
	}
}

// all: the numbers from one on, below another.
func all(from, below int) []int {
	var l []int
	for b := from; b < below; b++ {
		l = append(l, b)
	}
	return l
}

// told: all that a pool's calls tell; weight is Least's.
func told(p *Pool, weight []int) []any {
	b, ok := p.Open()
	out := []any{b, ok}
	for b := range api.MaxBlocks + 1 {
		out = append(out, p.How(b-1))
	}
	for how := range Dead + 2 {
		b, ok := p.Least(how, weight)
		out = append(out, p.Count(how), b, ok)
	}
	return out
}

// P8.1: the numbers of the standings, in their order.
func TestStandings(t *testing.T) {
	if Free != 0 || Used != 1 || Open != 2 || Dead != 3 {
		t.Errorf("%d, %d, %d, %d", Free, Used, Open, Dead)
	}
}

// P8.1: the document's example.
func TestExample(t *testing.T) {
	p := fresh(t, 2, 3)
	set(t, p, 2, Open)
	set(t, p, 3, Open)
	stand(t, p, map[int]byte{2: Used, 3: Open})
}

// P8.1
func TestNew(t *testing.T) {
	for _, blocks := range [][]int{nil, {}, {0}, {63}, {0, 63}, {2, 3, 7}, {5, 40}, all(0, 64), all(2, 64), all(0, 63)} {
		p := fresh(t, blocks...)
		counts(t, p, len(blocks), 0, 0, 0, 0)
		opens(t, p, 0, false)
		for b := range api.MaxBlocks {
			how := Dead
			if slices.Contains(blocks, b) {
				how = Free
			}
			stand(t, p, map[int]byte{b: how})
		}
		for _, b := range blocks {
			set(t, p, b, Used)
		}
		counts(t, p, 0, len(blocks), 0, 0)
	}
}

// P8.1
func TestNewRefuses(t *testing.T) {
	for _, blocks := range [][]int{
		{-1}, {64}, {math.MinInt}, {math.MaxInt}, {-1, 0}, {0, 64}, {-1, 0, 1}, {2, 3, 64}, {3, math.MaxInt}, {math.MinInt, 3},
		{3, 3}, {0, 0}, {63, 63}, {3, 2}, {1, 0}, {0, 2, 1}, {2, 3, 7, 7}, {2, 2, 3, 7}, {2, 7, 3, 8}, {0, 1, 0}, {63, 0},
		append(all(0, 64), 64), append(all(0, 64), 63), append(all(0, 64), 0),
	} {
		if p, e := New(blocks); p != nil || e != api.ErrArg {
			t.Errorf("New(%v) = %v, %d, want none, %d", blocks, p, e, api.ErrArg)
		}
	}
}

// P8.1: what a block may be set to from each standing.
func TestSet(t *testing.T) {
	for was := range Dead + 1 {
		for how := range Dead + 1 {
			p := fresh(t, 1, 4, 9)
			set(t, p, 9, Used)
			set(t, p, 4, was)
			if was == Dead && how != Dead {
				want(t, "Set of what is dead", p.Set(4, how), api.ErrState)
				stand(t, p, map[int]byte{1: Free, 4: Dead, 9: Used})
				continue
			}
			for range 2 {
				set(t, p, 4, how)
				stand(t, p, map[int]byte{1: Free, 4: how, 9: Used})
				if how == Open {
					opens(t, p, 4, true)
				} else {
					opens(t, p, 0, false)
				}
			}
		}
	}
}

// P8.1: of blocks that are Open there is one at most.
func TestOneIsOpen(t *testing.T) {
	p := fresh(t, 0, 2, 3, 63)
	opens(t, p, 0, false)
	for n, b := range []int{3, 63, 0, 2} {
		for range 2 {
			set(t, p, b, Open)
			opens(t, p, b, true)
			counts(t, p, 3-n, n, 1, 0)
		}
	}
	stand(t, p, map[int]byte{0: Used, 2: Open, 3: Used, 63: Used})
	for _, how := range []byte{Free, Used, Dead} {
		set(t, p, 0, Free)
		set(t, p, 63, Used)
		opens(t, p, 2, true)
		set(t, p, 2, how)
		opens(t, p, 0, false)
		stand(t, p, map[int]byte{0: Free, 2: how, 3: Used, 63: Used})
		if how != Dead {
			set(t, p, 2, Open)
			opens(t, p, 2, true)
		}
	}
	set(t, p, 0, Open)
	opens(t, p, 0, true)
	stand(t, p, map[int]byte{2: Dead, 3: Used, 63: Used})
}

// P8.1: wrong blocks and standings; beside an error nothing has changed.
func TestSetRefuses(t *testing.T) {
	p := fresh(t, 2, 3, 5, 7)
	set(t, p, 5, Open)
	set(t, p, 3, Dead)
	set(t, p, 7, Used)
	before := told(p, make([]int, 8))
	for _, b := range []int{0, 1, 4, 6, 8, 63, 64, -1, math.MinInt, math.MaxInt} {
		for _, how := range []byte{Free, Used, Open, Dead, 4, 255} {
			want(t, "Set of no block", p.Set(b, how), api.ErrArg)
		}
	}
	for _, b := range []int{2, 3, 5, 7} {
		for _, how := range []byte{4, 5, 128, 255} {
			want(t, "Set to no standing", p.Set(b, how), api.ErrArg)
		}
	}
	for _, how := range []byte{Free, Used, Open} {
		want(t, "Set of what is dead", p.Set(3, how), api.ErrState)
	}
	if !slices.Equal(told(p, make([]int, 8)), before) {
		t.Error("something has changed")
	}
	opens(t, p, 5, true)
}

// P8.1
func TestHowOfNoBlock(t *testing.T) {
	p := fresh(t, 2, 5)
	for _, b := range []int{0, 1, 3, 4, 6, 63, 64, -1, math.MinInt, math.MaxInt} {
		stand(t, p, map[int]byte{b: Dead})
	}
	counts(t, p, 2, 0, 0, 0)
}

// P8.1: only blocks of the pool count, and only standings that there are.
func TestCount(t *testing.T) {
	p := fresh(t, all(2, 12)...)
	for b, how := range []byte{Used, Dead, Used, Open, Dead, Used, Dead, Used} {
		set(t, p, b+2, how)
	}
	counts(t, p, 2, 4, 1, 3, 0)
	for _, how := range []byte{4, 5, 128, 255} {
		if p.Count(how) != 0 {
			t.Errorf("Count(%d) = %d", how, p.Count(how))
		}
	}
}

// P8.1
func TestLeast(t *testing.T) {
	p := fresh(t, 1, 2, 4, 5, 7)
	// Block:          0   1  2  3  4  5  6   7
	weights := []int{-99, 5, 3, -9, 4, 3, -9, 6}
	least(t, p, Free, weights, 2, true) // 2 and 5 are of one weight
	least(t, p, Free, append(weights, -100), 2, true)
	for below, b := range []int{0, 0, 1, 2, 2, 2, 2, 2, 2} {
		least(t, p, Free, weights[:below], b, below > 1)
	}
	set(t, p, 2, Used)
	least(t, p, Free, weights, 5, true)
	least(t, p, Used, weights, 2, true)
	set(t, p, 7, Used)
	least(t, p, Used, weights, 2, true)
	least(t, p, Used, []int{9, 9, 9, 9, 9, 9, 9, 8}, 7, true)
	least(t, p, Used, weights[:7], 2, true)
	least(t, p, Used, weights[:2], 0, false)
	set(t, p, 5, Dead)
	least(t, p, Free, weights, 4, true)
	least(t, p, Dead, weights, 5, true)
	set(t, p, 1, Open)
	least(t, p, Open, weights, 1, true)
	least(t, p, Free, weights, 4, true)
	least(t, p, 4, weights, 0, false)
	least(t, p, 255, weights, 0, false)
	for how := range Dead + 1 {
		least(t, p, how, nil, 0, false)
		least(t, p, how, []int{1}, 0, false)
	}
}

// P8.1: weights of all sizes, and the first block.
func TestLeastOfExtremes(t *testing.T) {
	p := fresh(t, 0, 1, 2)
	least(t, p, Free, []int{0, 0, 0}, 0, true)
	least(t, p, Free, []int{math.MaxInt, math.MaxInt, math.MaxInt}, 0, true)
	least(t, p, Free, []int{math.MinInt, math.MinInt, 0}, 0, true)
	least(t, p, Free, []int{math.MaxInt, 0, math.MinInt}, 2, true)
	least(t, p, Free, []int{1, 0, -1}, 2, true)
	least(t, p, Free, []int{math.MaxInt, math.MinInt, math.MaxInt}, 1, true)
	least(t, p, Used, []int{0, 0, 0}, 0, false)
	set(t, p, 0, Used)
	least(t, p, Free, []int{math.MinInt, math.MaxInt, math.MaxInt}, 1, true)
	least(t, p, Used, []int{math.MaxInt}, 0, true)
	far := fresh(t, all(0, 64)...)
	equal := make([]int, 64)
	least(t, far, Free, equal, 0, true)
	equal[63] = -1
	least(t, far, Free, equal, 63, true)
	least(t, far, Free, equal[:63], 0, true)
	least(t, fresh(t), Free, equal, 0, false)
}

// P8.1
func TestNil(t *testing.T) {
	var p *Pool
	for _, b := range []int{0, 2, 63, -1, math.MinInt, math.MaxInt} {
		for _, how := range []byte{Free, Used, Open, Dead, 4, 255} {
			want(t, "Set", p.Set(b, how), api.ErrNone)
			least(t, p, how, []int{1, 2, 3}, 0, false)
			least(t, p, how, nil, 0, false)
			if p.Count(how) != 0 {
				t.Errorf("Count(%d) = %d", how, p.Count(how))
			}
		}
		stand(t, p, map[int]byte{b: Dead})
	}
	opens(t, p, 0, false)
}

// The rule of memory: what is handed in stays, and isn't kept.
func TestMemory(t *testing.T) {
	blocks := []int{2, 5, 7}
	p := fresh(t, blocks...)
	set(t, p, 5, Used)
	if !slices.Equal(blocks, []int{2, 5, 7}) {
		t.Errorf("handed in: %v", blocks)
	}
	blocks[0], blocks[1] = 3, 4
	stand(t, p, map[int]byte{2: Free, 3: Dead, 4: Dead, 5: Used, 7: Free})
	weight := []int{8, 7, 6, 5, 4, 3, 2, 1}
	least(t, p, Free, weight, 7, true)
	if !slices.Equal(weight, []int{8, 7, 6, 5, 4, 3, 2, 1}) {
		t.Errorf("handed in: %v", weight)
	}
	weight[7] = 9
	least(t, p, Free, weight, 2, true)
}

// model: how each block stands; -1: there is none.
type model [api.MaxBlocks]int

func (m *model) set(b int, how byte) api.Errno {
	switch {
	case b < 0 || b >= len(m) || m[b] < 0 || how > Dead:
		return api.ErrArg
	case m[b] == int(Dead) && how != Dead:
		return api.ErrState
	case how == Open:
		for i := range m {
			if m[i] == int(Open) {
				m[i] = int(Used)
			}
		}
	}
	m[b] = int(how)
	return api.OK
}

func (m *model) told(weight []int) []any {
	count, first := [Dead + 2]int{}, [Dead + 2]int{-1, -1, -1, -1, -1}
	open := -1
	hows := []any{Dead}
	for b, how := range m {
		if how < 0 {
			hows = append(hows, Dead)
			continue
		}
		hows = append(hows, byte(how))
		count[how]++
		if how == int(Open) {
			open = b
		}
		if b < len(weight) && (first[how] < 0 || weight[b] < weight[first[how]]) {
			first[how] = b
		}
	}
	out := append([]any{max(open, 0), open >= 0}, hows...)
	for how := range Dead + 2 {
		out = append(out, count[how], max(first[how], 0), first[how] >= 0)
	}
	return out
}

// P8.1, P2: many calls against a model, which goes through the blocks in their order; another pool that is told the same answers the same.
func TestAgainstAModel(t *testing.T) {
	for seed := range int64(150) {
		src := rand.New(rand.NewSource(seed))
		var m model
		var blocks []int
		for b := range m {
			m[b] = -1
			if src.Intn(4) > 0 {
				m[b] = int(Free)
				blocks = append(blocks, b)
			}
		}
		p, same := fresh(t, blocks...), fresh(t, blocks...)
		for range 120 {
			b, how := src.Intn(66)-1, byte(src.Intn(6))
			if how >= Dead && src.Intn(3) > 0 {
				how = Used
			}
			want(t, "Set", p.Set(b, how), m.set(b, how))
			same.Set(b, how)
			weight := make([]int, src.Intn(70))
			for i := range weight {
				weight[i] = src.Intn(9) - 4
			}
			if !slices.Equal(told(p, weight), m.told(weight)) || !slices.Equal(told(same, weight), told(p, weight)) {
				t.Fatalf("seed %d: %v, %v, want %v", seed, told(p, weight), told(same, weight), m.told(weight))
			}
		}
	}
}

// P1, P2: a map is gone through in no order, and nothing of that is to be seen.
func TestAnswersTheSameAgain(t *testing.T) {
	p := fresh(t, all(0, 64)...)
	weight := make([]int, 64)
	set(t, p, 40, Open)
	before := told(p, weight)
	for range 200 {
		if !slices.Equal(told(p, weight), before) {
			t.Fatalf("%v, and then %v", before, told(p, weight))
		}
	}
}
