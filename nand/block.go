package nand

import "drawbar/api"

// blank is what stands on a page where no bytes came.
const blank = 0xff

// block is one block of an array.
type block struct {
	pages  [][]byte // those that are programmed
	torn   bool     // its erasing was cut
	erases int
	doom   int  // in how many operations it begins to fail; 0: in none
	fails  bool // does every operation fail from now on?
	failed bool // has one answered so, or is it bad from the beginning?
}

// next: which page is programmed next.
func (b *block) next() int {
	return len(b.pages)
}

// lay programs the next page with the first cut bytes of p; with none, if cut isn't above 0.
func (b *block) lay(p []byte, cut int) {
	if cut <= 0 {
		return
	}
	page := make([]byte, api.PageSize)
	for n := copy(page, p[:min(cut, len(p))]); n < len(page); n++ {
		page[n] = blank
	}
	b.pages = append(b.pages, page)
}

// erase takes the pages away; where cut says that it was cut, or the block fails, they are torn, if there are any.
func (b *block) erase(cut int) {
	switch {
	case cut <= 0:
	case cut < api.PageSize || b.fails:
		b.torn = b.next() > 0
	default:
		b.pages, b.torn = nil, false
		b.erases++
	}
}
