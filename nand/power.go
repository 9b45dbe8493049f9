package nand

import "drawbar/api"

// Raise: the fence is a greater epoch.
func (a *Array) Raise(epoch uint64) api.Errno {
	switch {
	case a == nil:
		return api.ErrNone
	case a.off:
		return api.ErrCrash
	case epoch <= a.fence:
		return api.ErrFence
	}
	a.fence = epoch
	return api.OK
}

// Fence: below which epoch nothing is changed.
func (a *Array) Fence() uint64 {
	if a == nil {
		return 0
	}
	return a.fence
}

// Arm: the power goes off in the n-th Program or Erase from now on; 0: it doesn't.
func (a *Array) Arm(n int) api.Errno {
	switch {
	case a == nil:
		return api.ErrNone
	case n < 0:
		return api.ErrArg
	}
	a.armed = n
	return api.OK
}

// Doom: a block fails in the n-th Program or Erase of it from now on, and in all behind; 0: it doesn't.
func (a *Array) Doom(i, n int) api.Errno {
	b := a.block(i)
	switch {
	case a == nil:
		return api.ErrNone
	case b == nil || n < 0:
		return api.ErrArg
	}
	b.doom = n
	return api.OK
}

// Restart: the power goes off and on; of what was being done so much is done as cut says; there is no fence.
func (a *Array) Restart(cut int) api.Errno {
	if a == nil {
		return api.ErrNone
	}
	if a.begun != nil {
		a.begun(cut)
	}
	a.off, a.begun = false, nil
	a.armed, a.fence = 0, 0
	a.boots++
	return api.OK
}

// Boots: how often the power went on again.
func (a *Array) Boots() int {
	if a == nil {
		return 0
	}
	return a.boots
}

// Ops: how many operations were begun.
func (a *Array) Ops() int {
	if a == nil {
		return 0
	}
	return a.ops
}

// On: is the power on?
func (a *Array) On() bool {
	return a != nil && !a.off
}

// reached counts one operation: is it the one that was to come? With 0 none is.
func reached(count *int) bool {
	if *count == 0 {
		return false
	}
	*count--
	return *count == 0
}
