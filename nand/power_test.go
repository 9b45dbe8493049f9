package nand

import (
	"math"
	"math/rand"
	"slices"
	"testing"

	"drawbar/api"
)

// P3.2
func TestThePowerGoesOffInTheNth(t *testing.T) {
	for n := 1; n < 6; n++ {
		a := fresh(t, 2, 8)
		a.Program(1, 0, filled(0), 0)
		want(t, "Arm", a.Arm(n), api.OK)
		for k := 1; k < n; k++ {
			want(t, "Program", a.Program(0, k-1, filled(k), 0), api.OK)
			// these aren't operations
			a.Program(0, 7, filled(k), 0)
			a.Read(0, 0)
			a.Erase(2, 0)
		}
		if !a.On() || a.Ops() != n {
			t.Errorf("ahead of the %d-th: %t, %d", n, a.On(), a.Ops())
		}
		want(t, "Program", a.Program(0, n-1, filled(n), 0), api.ErrCrash)
		if a.On() || a.Ops() != n+1 || a.Next(0) != n-1 || a.Boots() != 0 {
			t.Errorf("in the %d-th: %t, %d, Next %d", n, a.On(), a.Ops(), a.Next(0))
		}
		want(t, "off", a.Program(0, n-1, filled(n), 0), api.ErrCrash)
		want(t, "off", a.Erase(0, 0), api.ErrCrash)
		want(t, "off", a.Raise(9), api.ErrCrash)
		if a.Ops() != n+1 {
			t.Errorf("operations while it is off: %d", a.Ops())
		}
	}
}

// P3.2
func TestWhatComesAsFarAsBehindTheFenceIsAnOperation(t *testing.T) {
	a := fresh(t, 2, 2, 1)
	a.Raise(3)
	for _, c := range []struct {
		what string
		e    api.Errno
		got  api.Errno
		ops  int
	}{
		{"Program", api.OK, a.Program(0, 0, filled(0), 3), 1},
		{"below the fence", api.ErrFence, a.Program(0, 1, filled(0), 2), 0},
		{"not the next", api.ErrOrder, a.Program(0, 0, filled(0), 3), 0},
		{"too short", api.ErrForm, a.Program(0, 1, nil, 3), 0},
		{"no such page", api.ErrArg, a.Program(0, 2, filled(0), 3), 0},
		{"Erase below the fence", api.ErrFence, a.Erase(0, 2), 0},
		{"Erase of none", api.ErrArg, a.Erase(2, 3), 0},
		{"Program that fails", api.ErrFail, a.Program(1, 0, filled(0), 3), 1},
		{"Erase that fails", api.ErrFail, a.Erase(1, 3), 1},
		{"Erase", api.OK, a.Erase(0, 3), 1},
	} {
		want(t, c.what, c.got, c.e)
	}
	if a.Ops() != 4 {
		t.Errorf("Ops = %d", a.Ops())
	}
	a.Arm(2)
	a.Doom(0, 2)
	a.Program(0, 1, filled(0), 3)
	a.Erase(0, 2)
	want(t, "the first", a.Erase(0, 3), api.OK)
	want(t, "the second", a.Erase(0, 3), api.ErrCrash)
	a.Restart(0)
	want(t, "it fails on", a.Erase(0, 0), api.ErrFail)
}

// P3.2
func TestArm(t *testing.T) {
	a := fresh(t, 1, 8)
	want(t, "Arm(-1)", a.Arm(-1), api.ErrArg)
	want(t, "Arm(least)", a.Arm(math.MinInt), api.ErrArg)
	want(t, "Program", a.Program(0, 0, filled(0), 0), api.OK)
	a.Arm(1)
	want(t, "Arm(0)", a.Arm(0), api.OK)
	want(t, "disarmed", a.Program(0, 1, filled(0), 0), api.OK)
	a.Arm(1)
	a.Arm(2)
	want(t, "Arm(-1)", a.Arm(-1), api.ErrArg)
	want(t, "armed anew", a.Program(0, 2, filled(0), 0), api.OK)
	want(t, "armed anew", a.Program(0, 3, filled(0), 0), api.ErrCrash)
	want(t, "Arm while it is off", a.Arm(1), api.OK)
	a.Restart(0)
	want(t, "nothing is armed", a.Program(0, 3, filled(0), 0), api.OK)
	a.Arm(math.MaxInt)
	want(t, "in a long while", a.Erase(0, 0), api.OK)
}

// P3.2
func TestDoom(t *testing.T) {
	a := fresh(t, 3, 4, 2)
	for _, c := range [][2]int{{-1, 1}, {3, 1}, {3, 0}, {0, -1}, {-1, -1}, {0, math.MinInt}, {math.MaxInt, 1}} {
		want(t, "Doom", a.Doom(c[0], c[1]), api.ErrArg)
	}
	want(t, "Doom", a.Doom(0, 2), api.OK)
	want(t, "Doom", a.Doom(1, 1), api.OK)
	want(t, "Doom", a.Doom(1, 0), api.OK)
	want(t, "no more doomed", a.Program(1, 0, filled(1), 0), api.OK)
	want(t, "another's operation", a.Erase(1, 0), api.OK)
	want(t, "the first", a.Program(0, 0, filled(2), 0), api.OK)
	stands(t, a, 0, 1, 0, false)
	want(t, "the second", a.Program(0, 1, filled(3), 0), api.ErrFail)
	stands(t, a, 0, 2, 0, true)
	reads(t, a, 0, 0, filled(2))
	reads(t, a, 0, 1, first(filled(3), 0))
	want(t, "Doom(0)", a.Doom(0, 0), api.OK)
	want(t, "it goes on failing", a.Erase(0, 0), api.ErrFail)
	want(t, "Doom(2)", a.Doom(0, 2), api.OK)
	want(t, "it goes on failing", a.Program(0, 2, filled(3), 0), api.ErrFail)
	a.Restart(0)
	want(t, "it goes on failing", a.Erase(0, 0), api.ErrFail)
	stands(t, a, 0, 3, 0, true)
	reads(t, a, 0, 0, filled(2))
	a.Doom(2, 0)
	want(t, "bad from the beginning", a.Erase(2, 0), api.ErrFail)
}

// P3.2
func TestDoomAnew(t *testing.T) {
	a := fresh(t, 1, 8)
	a.Doom(0, 1)
	a.Doom(0, 3)
	want(t, "Doom(-1)", a.Doom(0, -1), api.ErrArg)
	want(t, "the first", a.Erase(0, 0), api.OK)
	a.Restart(0)
	want(t, "the second", a.Erase(0, 0), api.OK)
	want(t, "the third", a.Erase(0, 0), api.ErrFail)
	stands(t, a, 0, 0, 2, true)
}

// P3.2
func TestArmAndDoomCountTheSame(t *testing.T) {
	a := fresh(t, 2, 8)
	a.Doom(0, 2)
	a.Arm(1)
	want(t, "cut", a.Program(0, 0, filled(0), 0), api.ErrCrash)
	a.Restart(0)
	want(t, "its second", a.Program(0, 0, filled(0), 0), api.ErrFail)

	a = fresh(t, 2, 8)
	a.Doom(0, 1)
	a.Arm(1)
	want(t, "cut and doomed", a.Erase(0, 0), api.ErrCrash)
	stands(t, a, 0, 0, 0, false)
	a.Doom(0, 0)
	a.Restart(api.PageSize)
	stands(t, a, 0, 0, 0, false)
	want(t, "it goes on failing", a.Erase(0, 0), api.ErrFail)
	stands(t, a, 0, 0, 0, true)

	a = fresh(t, 2, 8)
	a.Doom(0, 1)
	a.Arm(2)
	want(t, "what fails is counted", a.Program(0, 0, filled(0), 0), api.ErrFail)
	want(t, "what fails is counted", a.Program(1, 0, filled(0), 0), api.ErrCrash)
}

// P3.2
func TestACutPage(t *testing.T) {
	for _, cut := range []int{math.MinInt, -1, 0, 1, 2, 50, api.PageSize - 1, api.PageSize, api.PageSize + 1, math.MaxInt} {
		a := fresh(t, 2, 3)
		a.Program(0, 0, filled(1), 0)
		a.Arm(1)
		want(t, "Program", a.Program(0, 1, filled(2), 0), api.ErrCrash)
		stands(t, a, 0, 1, 0, false)
		want(t, "Restart", a.Restart(cut), api.OK)
		reads(t, a, 0, 0, filled(1))
		if cut <= 0 {
			stands(t, a, 0, 1, 0, false)
			refusesRead(t, a, 0, 1, api.ErrNone)
			want(t, "the same page", a.Program(0, 1, filled(3), 0), api.OK)
			continue
		}
		stands(t, a, 0, 2, 0, false)
		reads(t, a, 0, 1, first(filled(2), min(cut, api.PageSize)))
		want(t, "the page behind", a.Program(0, 2, filled(3), 0), api.OK)
		reads(t, a, 0, 2, filled(3))
	}
}

// P3.2: the words of a cut page hold of a block that fails too.
func TestACutPageOfABlockThatFails(t *testing.T) {
	a := fresh(t, 1, 3, 0)
	a.Arm(1)
	want(t, "Program", a.Program(0, 0, filled(2), 0), api.ErrCrash)
	a.Restart(5)
	reads(t, a, 0, 0, first(filled(2), 5))
}

// cutErasing: an array whose block 0 has some pages and whose erasing was cut.
func cutErasing(t *testing.T, pages, cut int, bad ...int) *Array {
	t.Helper()
	a := fresh(t, 2, 4, bad...)
	for page := range pages {
		a.Program(0, page, filled(page), 0)
	}
	a.Program(1, 0, filled(9), 0)
	a.Arm(1)
	want(t, "Erase", a.Erase(0, 0), api.ErrCrash)
	if a.Next(0) != pages || a.Erases(0) != 0 {
		t.Errorf("ahead of Restart: %d, %d", a.Next(0), a.Erases(0))
	}
	want(t, "Restart", a.Restart(cut), api.OK)
	reads(t, a, 1, 0, filled(9))
	return a
}

// P3.2
func TestACutErasing(t *testing.T) {
	for _, pages := range []int{1, 3, 4} {
		for _, cut := range []int{math.MinInt, -1, 0} {
			a := cutErasing(t, pages, cut)
			stands(t, a, 0, pages, 0, false)
			reads(t, a, 0, pages-1, filled(pages-1))
		}
		for _, cut := range []int{1, 50, api.PageSize - 1} {
			a := cutErasing(t, pages, cut)
			stands(t, a, 0, pages, 0, false)
			for page := range pages {
				refusesRead(t, a, 0, page, api.ErrSum)
				want(t, "Program", a.Program(0, page, filled(9), 0), api.ErrOrder)
			}
			if pages < 4 {
				refusesRead(t, a, 0, pages, api.ErrNone)
				want(t, "Program on", a.Program(0, pages, filled(9), 0), api.ErrOrder)
			}
			a.Restart(api.PageSize)
			refusesRead(t, a, 0, 0, api.ErrSum)
			want(t, "Erase", a.Erase(0, 0), api.OK)
			stands(t, a, 0, 0, 1, false)
			want(t, "Program", a.Program(0, 0, filled(7), 0), api.OK)
			reads(t, a, 0, 0, filled(7))
		}
		for _, cut := range []int{api.PageSize, api.PageSize + 1, math.MaxInt} {
			a := cutErasing(t, pages, cut)
			stands(t, a, 0, 0, 1, false)
			refusesRead(t, a, 0, 0, api.ErrNone)
			want(t, "Program", a.Program(0, 0, filled(7), 0), api.OK)
			reads(t, a, 0, 0, filled(7))
		}
	}
}

// P3.2
func TestACutErasingOfAnErasedBlock(t *testing.T) {
	for _, cut := range []int{0, 1, api.PageSize - 1, api.PageSize} {
		a := cutErasing(t, 0, cut)
		stands(t, a, 0, 0, cut/api.PageSize, false)
		refusesRead(t, a, 0, 0, api.ErrNone)
		want(t, "Program", a.Program(0, 0, filled(7), 0), api.OK)
		reads(t, a, 0, 0, filled(7))
	}
}

// P3.2
func TestACutErasingOfABlockThatFails(t *testing.T) {
	for _, cut := range []int{0, 1, api.PageSize, math.MaxInt} {
		a := cutErasing(t, 2, cut, 0)
		stands(t, a, 0, 2, 0, true)
		if cut == 0 {
			reads(t, a, 0, 0, first(filled(0), 0))
			continue
		}
		refusesRead(t, a, 0, 0, api.ErrSum)
		refusesRead(t, a, 0, 1, api.ErrSum)
		want(t, "Erase", a.Erase(0, 0), api.ErrFail)
		refusesRead(t, a, 0, 0, api.ErrSum)
		want(t, "Program", a.Program(0, 2, filled(7), 0), api.ErrOrder)
	}
}

// P3.2
func TestACutErasingOfATornBlock(t *testing.T) {
	a := cutErasing(t, 2, 1)
	for _, cut := range []int{0, 1, api.PageSize - 1} {
		a.Arm(1)
		want(t, "Erase", a.Erase(0, 0), api.ErrCrash)
		a.Restart(cut)
		refusesRead(t, a, 0, 1, api.ErrSum)
		want(t, "Program", a.Program(0, 2, filled(7), 0), api.ErrOrder)
	}
	a.Arm(1)
	a.Erase(0, 0)
	a.Restart(api.PageSize)
	stands(t, a, 0, 0, 1, false)
	want(t, "Program", a.Program(0, 0, filled(7), 0), api.OK)
}

// P3.2
func TestRestart(t *testing.T) {
	a := fresh(t, 2, 4, 1)
	a.Program(0, 0, filled(1), 0)
	a.Raise(8)
	a.Arm(2)
	for n := 1; n < 4; n++ {
		want(t, "Restart", a.Restart(api.PageSize), api.OK)
		if a.Boots() != n || !a.On() || a.Fence() != 0 || a.Ops() != 1 {
			t.Errorf("Boots %d, On %t, Fence %d, Ops %d", a.Boots(), a.On(), a.Fence(), a.Ops())
		}
		stands(t, a, 0, 1, 0, false)
		stands(t, a, 1, 0, 0, true)
		reads(t, a, 0, 0, filled(1))
	}
	want(t, "nothing is armed", a.Program(0, 1, filled(2), 0), api.OK)
	want(t, "nothing is armed", a.Program(0, 2, filled(3), 0), api.OK)
	a.Raise(4)
	a.Arm(1)
	want(t, "Program", a.Program(0, 3, filled(4), 4), api.ErrCrash)
	a.Restart(9)
	a.Restart(9)
	stands(t, a, 0, 4, 0, false)
	reads(t, a, 0, 3, first(filled(4), 9))
	if a.Boots() != 5 || !a.On() || a.Fence() != 0 {
		t.Errorf("Boots %d, On %t, Fence %d", a.Boots(), a.On(), a.Fence())
	}
}

// P3.3
func TestRaise(t *testing.T) {
	a := fresh(t, 2, 4)
	want(t, "Raise(0)", a.Raise(0), api.ErrFence)
	for _, epoch := range []uint64{1, 2, 9, math.MaxUint64} {
		want(t, "Raise", a.Raise(epoch), api.OK)
		want(t, "the same", a.Raise(epoch), api.ErrFence)
		want(t, "one below", a.Raise(epoch-1), api.ErrFence)
		if a.Fence() != epoch {
			t.Errorf("Fence = %d, want %d", a.Fence(), epoch)
		}
	}
	want(t, "at the greatest", a.Program(0, 0, filled(0), math.MaxUint64), api.OK)
	want(t, "one below it", a.Erase(0, math.MaxUint64-1), api.ErrFence)
	if a.Ops() != 1 || a.Next(0) != 1 {
		t.Errorf("Ops %d, Next %d", a.Ops(), a.Next(0))
	}
}

// P3.3, P4
func TestWhoIsBelowTheFenceChangesNothing(t *testing.T) {
	a := fresh(t, 2, 4)
	want(t, "Program", a.Program(0, 0, filled(0), 5), api.OK)
	want(t, "Raise", a.Raise(6), api.OK)
	a.Arm(1)
	before := told(a)
	want(t, "Program", a.Program(0, 1, filled(1), 5), api.ErrFence)
	want(t, "Erase", a.Erase(0, 5), api.ErrFence)
	want(t, "Raise", a.Raise(5), api.ErrFence)
	if !slices.Equal(told(a), before) || a.Next(0) != 1 {
		t.Error("something has changed")
	}
	reads(t, a, 0, 0, filled(0))
	want(t, "at the fence", a.Erase(0, 6), api.ErrCrash)
	want(t, "off, above the fence", a.Raise(7), api.ErrCrash)
	want(t, "off, at the fence", a.Raise(6), api.ErrCrash)
	a.Restart(0)
	want(t, "above it", a.Program(0, 1, filled(1), 0), api.OK)
}

// P3.3
func TestNilArray(t *testing.T) {
	var a *Array
	for _, i := range []int{-1, 0, 1} {
		refusesRead(t, a, i, 0, api.ErrNone)
		want(t, "Program", a.Program(i, 0, nil, 0), api.ErrNone)
		want(t, "Erase", a.Erase(i, 0), api.ErrNone)
		want(t, "Arm", a.Arm(i), api.ErrNone)
		want(t, "Doom", a.Doom(i, i), api.ErrNone)
		want(t, "Raise", a.Raise(uint64(i)), api.ErrNone)
		want(t, "Restart", a.Restart(i), api.ErrNone)
		stands(t, a, i, 0, 0, false)
	}
	if a.Blocks() != 0 || a.Pages() != 0 || a.Fence() != 0 || a.Boots() != 0 || a.Ops() != 0 || a.On() {
		t.Error("a nil array tells something")
	}
}

// play does n calls that hang on seed alone, and tells what they answered.
func play(a *Array, seed int64, n int) []any {
	src := rand.New(rand.NewSource(seed))
	some := func(most int) int { return src.Intn(most+2) - 1 }
	var out []any
	for range n {
		i := some(3)
		switch src.Intn(12) {
		case 0:
			out = append(out, a.Arm(some(12)))
		case 1:
			out = append(out, a.Doom(i, some(40)))
		case 2:
			out = append(out, a.Restart(some(2*api.PageSize)))
		case 3:
			out = append(out, a.Raise(uint64(src.Intn(4))))
		case 4, 5:
			out = append(out, a.Erase(i, uint64(src.Intn(9))))
		case 6:
			p, e := a.Read(i, some(4))
			out = append(out, string(p), e)
		default:
			out = append(out, a.Program(i, a.Next(i), filled(some(200)), uint64(src.Intn(9))))
		}
		out = append(out, told(a)...)
	}
	return out
}

// P2
func TestAnswersHangOnWhatWasToldAlone(t *testing.T) {
	for seed := range int64(8) {
		a, other, b := fresh(t, 3, 4, 1), fresh(t, 3, 4), fresh(t, 3, 4, 1)
		got := play(a, seed, 60)
		play(other, seed+100, 60)
		if again := play(b, seed, 60); !slices.Equal(got, again) {
			t.Errorf("seed %d: told the same, two arrays answer otherwise", seed)
		}
	}
}

// P1
func TestCallsEndAtAllArguments(t *testing.T) {
	numbers := []int{math.MinInt, -1, 0, 1, 2, 3, api.PageSize, math.MaxInt}
	for seed := range int64(4) {
		a := fresh(t, 3, 3, 2)
		play(a, seed, 30)
		for _, i := range numbers {
			for _, n := range numbers {
				New(i, n, numbers)
				a.Read(i, n)
				a.Program(i, n, nil, uint64(n))
				a.Program(i, n, filled(n), uint64(i))
				a.Erase(i, uint64(n))
				a.Doom(i, n)
				a.Arm(n)
				a.Raise(uint64(n))
				a.Restart(i)
				told(a)
			}
			stands(t, a, i+5, 0, 0, false)
		}
	}
}
