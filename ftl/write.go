package ftl

import (
	"drawbar/api"
	"drawbar/plan"
	"drawbar/pmap"
	"drawbar/pool"
	"drawbar/sheet"
)

const noBlock = -1 // From of what is a copy of no block's page

// put lays a sheet as its address's page; where a block fails on the way, on another one.
func (f *FTL) put(s sheet.Sheet) api.Errno {
	for {
		b, e := f.room()
		if e != api.OK {
			return e
		}
		switch e := f.program(b, s); e {
		case api.OK:
			return f.stand.Set(b, pool.Open) // not ahead of it: what the fence refuses changes nothing that is told
		case api.ErrFail:
		default:
			return e
		}
	}
}

// room: the block that is open, or a free one that will be.
func (f *FTL) room() (int, api.Errno) {
	for {
		if b, ok := f.stand.Open(); ok {
			if !f.full(b) {
				return b, api.OK
			}
			f.stand.Set(b, pool.Used)
		}
		dead := f.stand.Count(pool.Dead)
		if dead > f.g.Spare {
			return 0, api.ErrFull
		}
		if f.stand.Count(pool.Free) > plan.Reserve(f.g, dead) {
			return f.fresh()
		}
		if e := f.reclaim(); e != api.OK {
			return 0, e
		}
	}
}

// reclaim frees the used block with the fewest pages that count. They are copied first, and where they went is open then: its rest is the room that is won.
func (f *FTL) reclaim() api.Errno {
	from, ok := f.least(pool.Used, f.where.Count)
	if !ok {
		return api.ErrFull
	}
	addrs := f.where.On(from)
	if len(addrs) == 0 {
		return f.erase(from)
	}
	to, e := f.copyAll(from, addrs)
	if e != api.OK {
		return e
	}
	if e := f.erase(from); e != api.OK {
		return e
	}
	return f.stand.Set(to, pool.Open)
}

// copyAll copies the pages of some addresses from a block, and tells to which one the last went. That there is no free one is told ahead of the array's errors.
func (f *FTL) copyAll(from int, addrs []int) (int, api.Errno) {
	to, e := f.fresh()
	for _, addr := range addrs {
		if e != api.OK {
			return 0, e
		}
		to, e = f.copyOne(from, addr)
	}
	return to, e
}

// copyOne copies an address's page to a free block. That one stays free till all is copied, so that the next copy comes to the same one, unless it fails.
func (f *FTL) copyOne(from, addr int) (int, api.Errno) {
	at, _ := f.where.Get(addr)
	s, e := f.sheet(at)
	if e != api.OK {
		return 0, e
	}
	s.From = from
	for {
		to, e := f.fresh()
		if e != api.OK {
			return 0, e
		}
		switch e := f.program(to, s); e {
		case api.OK:
			return to, api.OK
		case api.ErrFail:
		default:
			return 0, e
		}
	}
}

// program lays a sheet, with a number and an epoch, as the next page of a block; a block that fails is dead.
func (f *FTL) program(b int, s sheet.Sheet) api.Errno {
	f.seq++
	s.Epoch, s.Seq = f.epoch, f.seq
	at := pmap.Place{Block: b, Page: f.a.Next(b)}
	e := f.a.Program(b, at.Page, sheet.Lay(s), f.epoch)
	switch e {
	case api.OK:
		return f.where.Set(s.Addr, at)
	case api.ErrFail:
		f.stand.Set(b, pool.Dead)
	}
	return e
}

// erase: a block is free, or dead, if that fails.
func (f *FTL) erase(b int) api.Errno {
	switch e := f.a.Erase(b, f.epoch); e {
	case api.OK:
		return f.stand.Set(b, pool.Free)
	case api.ErrFail:
		return f.stand.Set(b, pool.Dead)
	default:
		return e
	}
}

// fresh: the free block that was erased the fewest times.
func (f *FTL) fresh() (int, api.Errno) {
	b, ok := f.least(pool.Free, f.a.Erases)
	if !ok {
		return 0, api.ErrFull
	}
	return b, api.OK
}

// least: of the blocks that stand so the one that weighs the least, of several the first.
func (f *FTL) least(how byte, weigh func(block int) int) (int, bool) {
	weight := make([]int, f.a.Blocks())
	for b := range weight {
		weight[b] = weigh(b)
	}
	return f.stand.Least(how, weight)
}

// full: is there no page of a block that can be programmed?
func (f *FTL) full(b int) bool {
	return f.a.Next(b) >= f.a.Pages()
}
