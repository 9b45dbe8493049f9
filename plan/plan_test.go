package plan

import (
	"math"
	"slices"
	"testing"

	"drawbar/api"
)

// made: a geometry.
func made(blocks, pages, spare int, bad ...int) api.Geometry {
	return api.Geometry{Blocks: blocks, Pages: pages, Spare: spare, Bad: bad}
}

// P5.1
func TestForm(t *testing.T) {
	for _, g := range []api.Geometry{
		made(8, 4, 1), made(8, 4, 1, 5, 3), made(8, 4, 1, 2), made(8, 4, 1, 7),
		made(4, 3, 0), made(5, 2, 0), made(64, 32, 8), made(64, 32, 0), made(64, 2, 8),
		made(12, 3, 8), made(13, 2, 8), made(6, 3, 0, 2, 5), made(7, 2, 0, 6, 2),
		made(64, 32, 8, 63, 2, 40), {Blocks: 8, Pages: 4, Bad: []int{}},
	} {
		if !Form(g) {
			t.Errorf("Form(%v) = false", g)
		}
	}
}

// P5.1
func TestFormRefuses(t *testing.T) {
	most, least := math.MaxInt, math.MinInt
	for _, g := range []api.Geometry{
		{},
		made(3, 32, 0), made(2, 32, 0), made(1, 32, 0), made(0, 32, 0), made(-1, 32, 0), made(least, 32, 0), made(65, 32, 0), made(most, 32, 0),
		made(8, 1, 0), made(8, 0, 0), made(8, -1, 0), made(8, 33, 0), made(8, least, 0), made(8, most, 0), made(64, 1, 0),
		made(8, 4, -1), made(64, 32, 9), made(8, 4, least), made(64, 32, most),
		made(8, 4, 1, 1), made(8, 4, 1, 0), made(8, 4, 1, -1), made(8, 4, 1, 8), made(8, 4, 1, least), made(8, 4, 1, most), made(8, 4, 1, 64),
		made(8, 4, 1, 3, 3), made(8, 4, 1, 3, 5, 3), made(8, 4, 1, 3, 1), made(8, 4, 1, 9, 3), made(8, 4, 1, 0, 0),
		made(4, 2, 0), made(5, 2, 1), made(12, 2, 8), made(5, 2, 2), made(4, 32, 1), made(4, 32, 2), // no address is left
		made(6, 2, 0, 2, 5), made(6, 32, 0, 2, 3, 4), made(6, 32, 0, 2, 3, 4, 5), made(8, 4, 4, 2),
	} {
		if Form(g) {
			t.Errorf("Form(%v) = true", g)
		}
	}
}

// P5.1
func TestUsable(t *testing.T) {
	all := func(below int) []int {
		var l []int
		for i := api.LogBlocks; i < below; i++ {
			l = append(l, i)
		}
		return l
	}
	for _, c := range []struct {
		g    api.Geometry
		want []int
	}{
		{made(8, 4, 1), []int{2, 3, 4, 5, 6, 7}},
		{made(8, 4, 1, 5, 3), []int{2, 4, 6, 7}},
		{made(8, 4, 1, 2, 7), []int{3, 4, 5, 6}},
		{made(8, 4, 1, 7, 6, 5, 4, 3, 2), nil},
		{made(64, 32, 0), all(64)},
		{made(64, 32, 0, 63), all(63)},
		{made(63, 32, 0), all(63)},
		// Of a geometry without Form too.
		{made(3, 0, -1), []int{2}},
		{made(2, 4, 1), nil}, {made(0, 4, 1), nil}, {made(-5, 4, 1), nil}, {made(math.MinInt, 4, 1), nil},
		{made(6, 4, 99, 3, 3, 3), []int{2, 4, 5}},
		{made(6, 4, 1, 0, 1, -1, 6, 7, 64, math.MaxInt, math.MinInt, 4), []int{2, 3, 5}},
	} {
		if got := Usable(c.g); !slices.Equal(got, c.want) {
			t.Errorf("Usable(%v) = %v, want %v", c.g, got, c.want)
		}
	}
}

// P5.1
func TestCapAndMeta(t *testing.T) {
	for _, c := range []struct {
		g    api.Geometry
		want int
	}{
		{made(8, 4, 1), 14}, {made(8, 4, 1, 5, 3), 6}, {made(4, 3, 0), 1}, {made(64, 32, 0), 1950}, {made(64, 32, 8), 1694}, {made(12, 3, 8), 1},
		// Of a geometry without Form too: as it is reckoned.
		{made(4, 2, 0), 0}, {made(5, 2, 2), -2}, {made(4, 32, 8), -226}, {made(0, 5, 0), -7}, {made(8, 0, 1), -2}, {made(8, -1, 1), -6},
		{made(8, 4, -3), 30}, {made(8, 4, 1, 3, 3, 3), 10}, {made(8, 4, 1, 1, 8), 14}, {made(8, 1000, 1), 3998},
	} {
		if Cap(c.g) != c.want || Meta(c.g) != c.want {
			t.Errorf("of %v: Cap %d, Meta %d, want %d", c.g, Cap(c.g), Meta(c.g), c.want)
		}
	}
}

// P5.1
func TestReserve(t *testing.T) {
	for _, c := range []struct{ spare, failed, want int }{
		{0, 0, 1}, {1, 0, 2}, {1, 1, 1}, {8, 0, 9}, {8, 8, 1}, {8, 9, 0}, {0, 5, -4}, {-2, 0, -1}, {2, -3, 6},
	} {
		for _, bad := range [][]int{nil, {3, 4}} {
			if got := Reserve(made(8, 4, c.spare, bad...), c.failed); got != c.want {
				t.Errorf("Reserve(Spare %d, %d) = %d, want %d", c.spare, c.failed, got, c.want)
			}
		}
	}
}

// The rule of memory: what is handed in stays, and what is answered is apart.
func TestMemory(t *testing.T) {
	g := made(8, 4, 1, 5, 3)
	Form(g)
	Cap(g)
	l := Usable(g)
	l[0] = 99
	if !slices.Equal(g.Bad, []int{5, 3}) || !slices.Equal(Usable(g), []int{2, 4, 6, 7}) {
		t.Errorf("Bad %v, Usable %v", g.Bad, Usable(g))
	}
	l = Usable(g)
	g.Bad[0] = 2
	if !slices.Equal(l, []int{2, 4, 6, 7}) || !slices.Equal(Usable(g), []int{4, 5, 6, 7}) {
		t.Errorf("answered %v, of another Bad %v", l, Usable(g))
	}
}

// P1, P2
func TestCallsEndAtAllArguments(t *testing.T) {
	numbers := []int{math.MinInt, -1, 0, 1, 2, 4, 33, 64, 65, 1 << 40, math.MaxInt}
	for _, blocks := range numbers {
		for _, pages := range numbers {
			for _, spare := range numbers {
				g := made(blocks, pages, spare, numbers...)
				if Form(g) {
					t.Errorf("Form(%v) = true", g)
				}
				if Cap(g) != Cap(g) || Meta(g) != Cap(g) || !slices.Equal(Usable(g), Usable(g)) || Reserve(g, blocks) != Reserve(g, blocks) {
					t.Errorf("of %v: answered otherwise, asked again", g)
				}
			}
		}
	}
}
