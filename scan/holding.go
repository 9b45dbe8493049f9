package scan

import (
	"bytes"
	"slices"

	"drawbar/api"
	"drawbar/nand"
	"drawbar/sheet"
)

// holding is the pages of each block, by its number. Where an answer would hang on the map's order, it is gone through by a list of blocks.
type holding map[int][]Found

// readAll reads some blocks.
func readAll(a *nand.Array, blocks []int, maxAddr int) (holding, api.Errno) {
	held := holding{}
	for _, i := range blocks {
		found, e := read(a, i, maxAddr)
		if e != api.OK {
			return nil, e
		}
		held[i] = found
	}
	return held, api.OK
}

// greatest: the greatest number of all pages; 0: there is none.
func (held holding) greatest() uint64 {
	most := uint64(0)
	for _, found := range held {
		for _, f := range found {
			most = max(most, f.S.Seq)
		}
	}
	return most
}

// takeSpoilt takes the blocks away that are but the beginning of a copying, and tells them. Each leaves before the next one is looked at: what was copied from it stands nowhere else then.
func (held holding) takeSpoilt(blocks []int) []int {
	var spoilt []int
	for _, i := range blocks {
		if held.isSpoilt(i) {
			spoilt = append(spoilt, i)
			delete(held, i)
		}
	}
	return spoilt
}

// isSpoilt: has a block pages, all of them copies of one block's, which all stand there still?
func (held holding) isSpoilt(i int) bool {
	found := held[i]
	if len(found) == 0 {
		return false
	}
	from := found[0].S.From // of a page that is no copy: no block, which holds nothing
	for _, f := range found {
		if f.S.From != from || !held.stands(from, f.S) {
			return false
		}
	}
	return true
}

// stands: has a block a page of which such a copy can be?
func (held holding) stands(block int, copied sheet.Sheet) bool {
	return slices.ContainsFunc(held[block], func(f Found) bool {
		return f.S.Kind == copied.Kind &&
			f.S.Addr == copied.Addr &&
			f.S.Seq < copied.Seq &&
			bytes.Equal(f.S.Data, copied.Data)
	})
}

// newest: of each address that has one, the page of the greatest number.
func (held holding) newest(blocks []int) map[int]Found {
	pages := map[int]Found{}
	for _, i := range blocks {
		for _, f := range held[i] {
			if was, ok := pages[f.S.Addr]; !ok || was.S.Seq < f.S.Seq {
				pages[f.S.Addr] = f
			}
		}
	}
	return pages
}
