package ftl

import (
	"slices"

	"drawbar/api"
	"drawbar/nand"
	"drawbar/plan"
	"drawbar/pool"
	"drawbar/scan"
)

const maxEpoch = 1<<48 - 1 // a sheet holds no greater one

// Mount: what an array holds; blocks without a page that counts are erased.
func Mount(a *nand.Array, g api.Geometry, epoch uint64) (*FTL, api.Errno) {
	if epoch < 1 || epoch > maxEpoch {
		return nil, api.ErrArg
	}
	held, e := scan.All(a, g)
	if e != api.OK {
		return nil, e
	}
	usable := plan.Usable(g)
	stand, e := pool.New(usable)
	if e != api.OK {
		return nil, e
	}
	g.Bad = slices.Clone(g.Bad)
	f := &FTL{a: a, g: g, epoch: epoch, seq: held.Seq, where: held.Map, stand: stand}
	if e := f.standAll(usable); e != api.OK {
		return nil, e
	}
	if b, ok := f.newest(usable, held.Pages); ok {
		f.stand.Set(b, pool.Open)
	}
	return f, api.OK
}

// standAll: blocks stand as the array tells; none is open yet.
func (f *FTL) standAll(blocks []int) api.Errno {
	for _, b := range blocks {
		if e := f.standOne(b); e != api.OK {
			return e
		}
	}
	return api.OK
}

func (f *FTL) standOne(b int) api.Errno {
	switch {
	case f.a.Failed(b):
		return f.stand.Set(b, pool.Dead)
	case f.a.Next(b) == 0:
		return f.stand.Set(b, pool.Free)
	case f.where.Count(b) == 0:
		return f.erase(b)
	}
	return f.stand.Set(b, pool.Used)
}

// newest: of the used blocks that aren't full the one with the newest page that counts.
func (f *FTL) newest(blocks []int, pages map[int]scan.Found) (int, bool) {
	newest, most, found := 0, uint64(0), false
	for _, b := range blocks {
		if f.stand.How(b) != pool.Used || f.full(b) {
			continue
		}
		for _, addr := range f.where.On(b) {
			if seq := pages[addr].S.Seq; !found || seq > most {
				newest, most, found = b, seq, true
			}
		}
	}
	return newest, found
}
