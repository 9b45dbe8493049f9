package ftl

import (
	"math"
	"math/rand"
	"slices"
	"testing"

	"drawbar/api"
	"drawbar/nand"
	"drawbar/plan"
)

// cuts: how much may be done of what is cut, at all edges.
var cuts = []int{math.MinInt, 1, api.PageSize - 1, math.MaxInt}

// game is writes and trims on an array whose power goes off and whose blocks fail, and what must be there.
type game struct {
	a     *nand.Array
	g     api.Geometry
	f     *FTL
	src   *rand.Rand
	epoch uint64
	sure  map[int]string // what the last Write or Trim that answered OK has laid
	asked map[int]string // what the one that was cut would have
	n     int
	full  int // how often ErrFull was met
}

func newGame(t *testing.T, g api.Geometry, seed int64) *game {
	t.Helper()
	x := &game{a: fresh(t, g), g: g, src: rand.New(rand.NewSource(seed)), epoch: 1, sure: map[int]string{}}
	x.f = mount(t, x.a, g, 1)
	return x
}

// bounded: may ErrFull not be answered?
func (x *game) bounded() bool {
	failed := 0
	for _, b := range plan.Usable(x.g) {
		if x.a.Failed(b) {
			failed++
		}
	}
	return failed <= x.g.Spare
}

// move writes or trims an address, and tells what was answered.
func (x *game) move(t *testing.T) api.Errno {
	t.Helper()
	x.n++
	addr, data, e := x.src.Intn(plan.Meta(x.g)+1), "", api.OK
	if x.src.Intn(4) == 0 {
		e = x.f.Trim(addr)
	} else {
		data = string([]byte{byte(x.n >> 8), byte(x.n), byte(addr)})
		e = x.f.Write(addr, []byte(data))
	}
	switch {
	case e == api.OK:
		x.sure[addr] = data
	case e == api.ErrCrash && !x.a.On():
		x.asked = map[int]string{addr: data}
	case e == api.ErrFull && !x.bounded():
		x.full++
	default:
		t.Errorf("move %d: %d", x.n, e)
	}
	return e
}

// again restarts an array whose power is off, and mounts it; false: that was cut too.
func (x *game) again(t *testing.T, cut, armed int) bool {
	t.Helper()
	x.a.Restart(cut)
	x.a.Arm(armed)
	return x.mount(t)
}

func (x *game) mount(t *testing.T) bool {
	t.Helper()
	x.epoch++
	f, e := Mount(x.a, x.g, x.epoch)
	if e == api.ErrCrash && !x.a.On() {
		return false
	}
	if e != api.OK {
		t.Fatalf("Mount: %d", e)
	}
	x.f = f
	x.look(t)
	return true
}

// look holds what is read against what must be there: what was cut is there from now on, or never.
func (x *game) look(t *testing.T) {
	t.Helper()
	for addr := range plan.Meta(x.g) + 1 {
		p, e := x.f.Read(addr)
		if data, ok := x.asked[addr]; ok && e == api.OK && string(p) == data {
			x.sure[addr] = data
		}
		if e != api.OK || string(p) != x.sure[addr] {
			t.Errorf("move %d: Read(%d) = %q, %d, want %q", x.n, addr, p, e, x.sure[addr])
		}
	}
	x.asked = nil
}

// cutTwice plays moves; the n-th operation is cut, and, behind it, once more the one that again tells.
func (x *game) cutTwice(t *testing.T, n, cut, again, cut2 int) (reached bool) {
	t.Helper()
	x.a.Arm(n)
	for range 40 {
		if x.move(t) != api.ErrCrash {
			continue
		}
		if !reached {
			reached = true
			if x.again(t, cut, again) {
				continue
			}
		}
		if !x.again(t, cut2, 0) {
			t.Error("nothing was armed")
		}
	}
	x.look(t)
	return reached
}

// P10.4: each operation is cut, in each way, and then one of the Mount behind it, or of what comes then.
func TestCutAnywhere(t *testing.T) {
	for i, g := range geometries()[:2] {
		for n := 1; ; n++ {
			reached := false
			for _, cut := range cuts {
				for again := range 4 {
					for _, cut2 := range []int{0, 50, api.PageSize} {
						reached = newGame(t, g, int64(i)).cutTwice(t, n, cut, again, cut2)
						if t.Failed() {
							t.Fatalf("%v: cut in %d by %d, again in %d by %d", g, n, cut, again, cut2)
						}
					}
				}
			}
			if !reached {
				break
			}
		}
	}
}

// P10.4: the same with a block that fails, in each of its operations.
func TestCutAnywhereAsABlockFails(t *testing.T) {
	g := small
	for b := api.LogBlocks; b < g.Blocks; b++ {
		for doom := 1; doom <= 9; doom++ {
			for n := 1; n <= 60; n++ {
				for _, cut := range []int{0, 50, api.PageSize} {
					x := newGame(t, g, 5)
					x.a.Doom(b, doom)
					x.cutTwice(t, n, cut, n%4, cut)
					if t.Failed() {
						t.Fatalf("block %d fails in %d, cut in %d by %d", b, doom, n, cut)
					}
				}
			}
		}
	}
}

// play does n things: moves, power that goes off, other Mounts.
func (x *game) play(t *testing.T, n int) []any {
	t.Helper()
	var out []any
	for range n {
		if x.src.Intn(6) == 0 {
			x.a.Arm(1 + x.src.Intn(6))
		}
		switch x.src.Intn(12) {
		case 0:
			x.a.Restart(0)
			x.mount(t)
		case 1:
			x.takeOver(t)
		default:
			out = append(out, x.move(t))
		}
		for !x.a.On() {
			x.again(t, x.src.Intn(2*api.PageSize)-api.PageSize/2, x.src.Intn(6))
		}
		out = append(out, told(x.f, x.a, x.g)...)
		if t.Failed() {
			return out
		}
	}
	x.look(t)
	return out
}

// takeOver: another one mounts the array, and the one ahead changes nothing any more.
func (x *game) takeOver(t *testing.T) {
	t.Helper()
	old := x.f
	want(t, "Raise", x.a.Raise(x.epoch+1), api.OK)
	if !x.mount(t) {
		return
	}
	before := told(x.f, x.a, x.g)
	for addr := range plan.Meta(x.g) + 1 {
		if e := old.Write(addr, []byte("!")); e != api.ErrFence && e != api.ErrFull {
			t.Errorf("Write below the fence: %d", e)
		}
		old.Trim(addr)
	}
	if !slices.Equal(told(x.f, x.a, x.g), before) {
		t.Error("who is below the fence has changed something")
	}
}

// doom dooms some of the usable blocks, at most so many.
func (x *game) doom(most int) {
	usable := plan.Usable(x.g)
	for _, i := range x.src.Perm(len(usable))[:min(most, len(usable))] {
		x.a.Doom(usable[i], 1+x.src.Intn(60))
	}
}

// P10.4, P3, P7: as long as at most Spare blocks fail, all is there, and it goes on.
func TestItGoesOn(t *testing.T) {
	gs := geometries()
	for seed := range int64(300) {
		g := gs[seed%int64(len(gs))]
		x := newGame(t, g, seed)
		x.doom(g.Spare)
		x.play(t, 120)
		if t.Failed() || x.full > 0 {
			t.Fatalf("seed %d: ErrFull %d times", seed, x.full)
		}
	}
}

// P10.4: where more blocks fail, all is there still; ErrFull changes nothing.
func TestMoreFail(t *testing.T) {
	gs := geometries()
	full := 0
	for seed := range int64(200) {
		g := gs[seed%int64(len(gs))]
		x := newGame(t, g, seed)
		x.doom(g.Spare + 1 + x.src.Intn(3))
		x.play(t, 120)
		full += x.full
		if t.Failed() {
			t.Fatalf("seed %d", seed)
		}
	}
	if full < 100 {
		t.Errorf("ErrFull was met but %d times", full)
	}
}

// P10.4: all addresses have pages, as many blocks as may have failed: each address can be written on and on.
func TestFullOfPages(t *testing.T) {
	for _, g := range geometries() {
		a := fresh(t, g)
		f := mount(t, a, g, 1)
		for addr := range plan.Meta(g) + 1 {
			writes(t, f, byte(addr), addr)
		}
		for i, b := range plan.Usable(g)[:g.Spare] {
			a.Doom(b, 1+i)
		}
		for i := range 400 {
			addr := 7 * i % (plan.Meta(g) + 1)
			writes(t, f, byte(i), addr)
			reads(t, f, addr, string([]byte{byte(i)}))
		}
		if f.Failed() != g.Spare || f.Len() != plan.Meta(g)+1 {
			t.Errorf("Failed %d, Len %d", f.Failed(), f.Len())
		}
	}
}

// P2
func TestAnswersHangOnWhatWasToldAlone(t *testing.T) {
	for seed := range int64(12) {
		g := geometries()[seed%6]
		x, other, again := newGame(t, g, seed), newGame(t, g, seed+1000), newGame(t, g, seed)
		x.doom(2)
		other.doom(3)
		again.doom(2)
		got := x.play(t, 60)
		other.play(t, 60)
		if !slices.Equal(got, again.play(t, 60)) {
			t.Errorf("seed %d: told the same, two FTLs answer otherwise", seed)
		}
	}
}
