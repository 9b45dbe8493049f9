package logbook

import (
	"math"
	"math/rand"
	"slices"
	"testing"

	"drawbar/api"
	"drawbar/nand"
)

// cuts: how much may be done of what is cut, at all edges.
var cuts = []int{math.MinInt, -1, 0, 1, 50, api.PageSize - 1, api.PageSize, math.MaxInt}

// oneOf: Last answers one of two claims; which one is answered.
func oneOf(t *testing.T, a *nand.Array, was, will Entry) Entry {
	t.Helper()
	x, e := Last(a)
	if e != api.OK || x != was && x != will {
		t.Errorf("Last = %v, %d, want %v or %v", x, e, was, will)
	}
	return x
}

// P6.2: each operation of a row of claims is cut, in each way, and then the operation behind it, too.
func TestCutClaims(t *testing.T) {
	for pages := 1; pages < 4; pages++ {
		for n := 1; n < 12; n++ {
			for _, cut := range cuts {
				for _, again := range cuts {
					rowOfClaims(t, pages, n, []int{cut, again})
				}
			}
		}
	}
}

// rowOfClaims claims epochs, the power going off in the n-th operation, and, as often as there are ways left to cut one, in the first one behind.
func rowOfClaims(t *testing.T, pages, n int, ways []int) {
	t.Helper()
	a := fresh(t, 2, pages)
	a.Arm(n)
	was := Entry{}
	for k := range 12 {
		x := Entry{was.Epoch + 1 + uint64(k%3), k % 2}
		switch e := Claim(a, x); e {
		case api.OK:
			last(t, "claimed", a, x, api.OK)
			was = x
		case api.ErrCrash:
			a.Restart(ways[0])
			was = oneOf(t, a, was, x)
			if ways = ways[1:]; len(ways) > 0 {
				a.Arm(1)
			}
		default:
			t.Errorf("Claim(%v): %d", x, e)
		}
	}
	if len(ways) > 0 {
		t.Errorf("pages %d, cut in %d: %d ways weren't tried", pages, n, len(ways))
	}
}

// P6.2: what was being done when the power went off is a claim, or isn't, by how much of it is done.
func TestWhatWasCut(t *testing.T) {
	for _, cut := range cuts {
		a := fresh(t, 2, 2)
		claims(t, a, 1)
		a.Arm(1)
		want(t, "Claim", Claim(a, Entry{5, 0}), api.ErrCrash)
		a.Restart(cut)
		if cut < api.PageSize {
			last(t, "cut", a, Entry{1, 1}, api.OK)
			want(t, "Claim of the same by the other", Claim(a, Entry{5, 1}), api.OK)
			last(t, "claimed", a, Entry{5, 1}, api.OK)
			continue
		}
		last(t, "whole", a, Entry{5, 0}, api.OK)
		want(t, "Claim of the same by the other", Claim(a, Entry{5, 1}), api.ErrOrder)
		last(t, "claimed", a, Entry{5, 0}, api.OK)
	}
}

// P6.2: the erasing of the other block is cut: the last claim stands.
func TestCutErasingOfTheOtherBlock(t *testing.T) {
	for _, cut := range cuts {
		for _, n := range []uint64{2, 4, 6} {
			a := fresh(t, 2, 2)
			for epoch := range n {
				claims(t, a, epoch+1)
			}
			a.Arm(1)
			want(t, "Claim", Claim(a, Entry{n + 1, 0}), api.ErrCrash)
			a.Restart(cut)
			last(t, "cut", a, Entry{n, 0}, api.OK)
			want(t, "Claim", Claim(a, Entry{n + 1, 1}), api.OK)
			last(t, "claimed", a, Entry{n + 1, 1}, api.OK)
		}
	}
}

// game is claims by two who know nothing of one another, on an array whose power goes off and whose blocks fail.
type game struct {
	a     *nand.Array
	src   *rand.Rand
	last  Entry          // what Last answered at last
	who   map[uint64]int // who has an epoch, by all that Last has answered
	asked []Entry        // what was cut since
}

func newGame(t *testing.T, seed int64) *game {
	src := rand.New(rand.NewSource(seed))
	g := &game{a: fresh(t, 2, 1+src.Intn(4)), src: src, who: map[uint64]int{}}
	if src.Intn(2) == 0 {
		g.a.Doom(src.Intn(2), src.Intn(20))
	}
	return g
}

// look holds what Last answers against what is known.
func (g *game) look(t *testing.T) {
	t.Helper()
	if !g.a.On() { // what was cut is done, or isn't, by Restart alone
		return
	}
	x, e := Last(g.a)
	switch {
	case e != api.OK || x.Epoch < g.last.Epoch:
		t.Errorf("Last = %v, %d, behind %v", x, e, g.last)
	case x != g.last && !slices.Contains(g.asked, x):
		t.Errorf("Last = %v, which nobody has claimed; it was %v", x, g.last)
	}
	if who, ok := g.who[x.Epoch]; ok && who != x.Who {
		t.Errorf("epoch %d is of both", x.Epoch)
	}
	g.who[x.Epoch], g.last, g.asked = x.Who, x, nil
}

// move does one thing, and tells what was answered.
func (g *game) move(t *testing.T) api.Errno {
	t.Helper()
	if !g.a.On() || g.src.Intn(9) == 0 {
		return g.a.Restart(g.src.Intn(2*api.PageSize) - api.PageSize/2)
	}
	if g.src.Intn(4) == 0 {
		g.a.Arm(1 + g.src.Intn(3))
	}
	if g.src.Intn(6) == 0 {
		g.a.Raise(g.last.Epoch + uint64(g.src.Intn(4)))
	}
	x := Entry{g.last.Epoch + uint64(g.src.Intn(4)), g.src.Intn(2)}
	e := Claim(g.a, x)
	switch {
	case e == api.OK:
		last(t, "claimed", g.a, x, api.OK)
		g.asked = append(g.asked, x)
	case e == api.ErrCrash:
		g.asked = append(g.asked, x)
	case x.Epoch <= g.last.Epoch && x.Epoch > 0 && e != api.ErrOrder:
		t.Errorf("Claim(%v) behind %v: %d", x, g.last, e)
	}
	return e
}

// play does n moves, and tells all that was answered.
func (g *game) play(t *testing.T, n int) []any {
	t.Helper()
	var out []any
	for range n {
		out = append(out, g.move(t))
		g.look(t)
		out = append(out, g.last)
	}
	return append(out, told(g.a)...)
}

// P6.2, P4
func TestLastNeverGoesBack(t *testing.T) {
	for seed := range int64(400) {
		newGame(t, seed).play(t, 80)
		if t.Failed() {
			t.Fatalf("seed %d", seed)
		}
	}
}

// P2
func TestAnswersHangOnWhatWasToldAlone(t *testing.T) {
	for seed := range int64(20) {
		g, other, again := newGame(t, seed), newGame(t, seed+1000), newGame(t, seed)
		got := g.play(t, 60)
		other.play(t, 60)
		if !slices.Equal(got, again.play(t, 60)) {
			t.Errorf("seed %d: told the same, two arrays answer otherwise", seed)
		}
	}
}

// P1
func TestCallsEndAtAllArguments(t *testing.T) {
	arrays := []*nand.Array{nil, fresh(t, 1, 1), fresh(t, 2, 1), fresh(t, 2, 1, 0, 1), fresh(t, 4, 32, 1)}
	torn := fresh(t, 2, 2)
	claims(t, torn, 1)
	tear(t, torn, 0)
	off := fresh(t, 2, 2)
	off.Arm(1)
	off.Erase(0, 0)
	epochs := []uint64{0, 1, 2, 255, 1<<48 - 1, 1 << 48, math.MaxUint64}
	for _, a := range append(arrays, torn, off) {
		for _, who := range []int{math.MinInt, -1, 0, 1, 2, math.MaxInt} {
			for _, epoch := range epochs {
				Claim(a, Entry{epoch, who})
				Last(a)
			}
		}
	}
}
