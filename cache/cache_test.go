package cache

import (
	"bytes"
	"math"
	"math/rand"
	"slices"
	"testing"

	"drawbar/api"
)

func value(addr int, data string) Page {
	return Page{Addr: addr, Data: []byte(data)}
}

func hole(addr int) Page {
	return Page{Addr: addr, Hole: true}
}

// want holds what a call answered against what it should.
func want(t *testing.T, what string, got, want api.Errno) {
	t.Helper()
	if got != want {
		t.Errorf("%s: %d, want %d", what, got, want)
	}
}

func puts(t *testing.T, c *Cache, pages ...Page) {
	t.Helper()
	for _, p := range pages {
		want(t, "Put", c.Put(p), api.OK)
	}
}

func equal(p, q Page) bool {
	return p.Addr == q.Addr && p.Hole == q.Hole && bytes.Equal(p.Data, q.Data)
}

// waits: just these wait, by all that a cache tells.
func waits(t *testing.T, c *Cache, pages ...Page) {
	t.Helper()
	if all := c.All(); !slices.EqualFunc(all, pages, equal) {
		t.Errorf("All = %v, want %v", all, pages)
	}
	if c.Len() != len(pages) {
		t.Errorf("Len = %d, want %d", c.Len(), len(pages))
	}
	for _, p := range pages {
		if q, ok := c.Get(p.Addr); !ok || !equal(p, q) {
			t.Errorf("Get(%d) = %v, %t, want %v", p.Addr, q, ok, p)
		}
	}
}

// nothing: none waits for these addresses.
func nothing(t *testing.T, c *Cache, addrs ...int) {
	t.Helper()
	for _, addr := range addrs {
		if p, ok := c.Get(addr); ok || !equal(p, Page{}) {
			t.Errorf("Get(%d) = %v, %t, want nothing", addr, p, ok)
		}
	}
}

// full: as many wait as can, of the addresses 10, 20 .. 80.
func full(t *testing.T) (*Cache, []Page) {
	t.Helper()
	c := new(Cache)
	var pages []Page
	for i := range api.MaxDirty {
		pages = append(pages, value(10*(i+1), string(rune('a'+i))))
	}
	for _, i := range []int{3, 0, 7, 5, 1, 6, 2, 4} {
		puts(t, c, pages[i])
	}
	return c, pages
}

// P11.1: the document's example.
func TestExample(t *testing.T) {
	var c Cache
	puts(t, &c, value(3, "a"), value(1, "b"), hole(3))
	waits(t, &c, value(1, "b"), hole(3))
}

// P11.1
func TestZeroValue(t *testing.T) {
	var c Cache
	waits(t, &c)
	nothing(t, &c, 0, 1, 65535)
	c.Drop(0)
	waits(t, &c)
	puts(t, &c, value(0, "a"))
	waits(t, &c, value(0, "a"))
}

// P11.1
func TestPut(t *testing.T) {
	var c Cache
	puts(t, &c, value(5, "a"))
	waits(t, &c, value(5, "a"))
	puts(t, &c, value(5, "bcd"))
	waits(t, &c, value(5, "bcd"))
	puts(t, &c, value(5, "e"))
	waits(t, &c, value(5, "e"))
	puts(t, &c, value(5, ""))
	waits(t, &c, value(5, ""))
	puts(t, &c, value(7, "f"), value(6, "g"), value(4, "h"), hole(8))
	waits(t, &c, value(4, "h"), value(5, ""), value(6, "g"), value(7, "f"), hole(8))
	nothing(t, &c, 0, 3, 9, 65535)
}

// P11.1: a hole in the place of data, and data in that of a hole; of a hole the data are none.
func TestHoles(t *testing.T) {
	var c Cache
	puts(t, &c, value(2, "a"), value(3, "b"), hole(2))
	waits(t, &c, hole(2), value(3, "b"))
	puts(t, &c, value(2, "c"), Page{Addr: 3, Data: []byte("none"), Hole: true})
	waits(t, &c, value(2, "c"), hole(3))
	puts(t, &c, Page{Addr: 9, Data: make([]byte, api.DataSize), Hole: true})
	waits(t, &c, value(2, "c"), hole(3), hole(9))
	puts(t, &c, value(9, ""))
	waits(t, &c, value(2, "c"), hole(3), value(9, ""))
}

// P11.1: the first and the last address, the longest data, and those one beyond.
func TestEdges(t *testing.T) {
	var c Cache
	most := string(bytes.Repeat([]byte{0xfe}, api.DataSize))
	puts(t, &c, value(65535, most), value(0, most[1:]))
	waits(t, &c, value(0, most[1:]), value(65535, most))
	for _, is := range []bool{false, true} {
		for _, addr := range []int{-1, 65536, math.MinInt, math.MaxInt, -65535, 1 << 32} {
			want(t, "no such address", c.Put(Page{Addr: addr, Data: []byte("x"), Hole: is}), api.ErrArg)
			want(t, "and too much", c.Put(Page{Addr: addr, Data: make([]byte, 65), Hole: is}), api.ErrArg)
			nothing(t, &c, addr)
			c.Drop(addr)
		}
		for _, addr := range []int{0, 1, 65535} {
			want(t, "too much", c.Put(Page{Addr: addr, Data: make([]byte, 65), Hole: is}), api.ErrLong)
			want(t, "far too much", c.Put(Page{Addr: addr, Data: make([]byte, 100000), Hole: is}), api.ErrLong)
		}
	}
	waits(t, &c, value(0, most[1:]), value(65535, most))
}

// P11.1: MaxDirty others wait; what waits can still be put anew.
func TestBusy(t *testing.T) {
	c, pages := full(t)
	waits(t, c, pages...)
	for _, addr := range []int{0, 9, 11, 45, 79, 81, 65535} {
		want(t, "one more", c.Put(value(addr, "x")), api.ErrBusy)
		want(t, "one more hole", c.Put(hole(addr)), api.ErrBusy)
		want(t, "too much", c.Put(Page{Addr: addr, Data: make([]byte, 65)}), api.ErrLong)
		nothing(t, c, addr)
	}
	want(t, "no such address", c.Put(hole(-1)), api.ErrArg)
	want(t, "no such address", c.Put(hole(65536)), api.ErrArg)
	waits(t, c, pages...)
	for i, p := range pages {
		pages[i] = value(p.Addr, "again")
		puts(t, c, pages[i])
		waits(t, c, pages...)
		want(t, "still", c.Put(value(p.Addr+1, "x")), api.ErrBusy)
	}
	c.Drop(40)
	puts(t, c, value(65535, "x"))
	want(t, "full again", c.Put(value(40, "y")), api.ErrBusy)
	waits(t, c, append(slices.Delete(pages, 3, 4), value(65535, "x"))...)
}

// P11.1
func TestDrop(t *testing.T) {
	for _, gone := range []int{10, 30, 80} {
		c, pages := full(t)
		for _, addr := range []int{0, 9, 11, 81, -1, -10, 65535, 65536, math.MinInt, math.MaxInt} {
			c.Drop(addr)
		}
		waits(t, c, pages...)
		rest := slices.DeleteFunc(pages, func(p Page) bool { return p.Addr == gone })
		for range 2 {
			c.Drop(gone)
			waits(t, c, rest...)
			nothing(t, c, gone)
		}
		for len(rest) > 0 {
			c.Drop(rest[0].Addr)
			rest = rest[1:]
			waits(t, c, rest...)
		}
		puts(t, c, hole(gone))
		waits(t, c, hole(gone))
	}
}

// P11.1
func TestNil(t *testing.T) {
	var c *Cache
	for _, addr := range []int{0, 1, 65535, 65536, -1, math.MinInt, math.MaxInt} {
		for _, size := range []int{0, 64, 65} {
			want(t, "Put", c.Put(Page{Addr: addr, Data: make([]byte, size), Hole: size == 0}), api.ErrNone)
		}
		c.Drop(addr)
		nothing(t, c, addr)
	}
	waits(t, c)
}

// The rule of memory: what is handed in stays, and isn't kept, be it the first page of its address or not.
func TestHandedIn(t *testing.T) {
	var c Cache
	room := []byte("abcdef")
	handed := func(was string) {
		t.Helper()
		if string(room) != was {
			t.Errorf("handed in: %q, and now %q", was, room)
		}
	}
	puts(t, &c, Page{Addr: 1, Data: room[:3]}, Page{Addr: 2, Data: room[2:4], Hole: true})
	handed("abcdef")
	room[1] = '!'
	waits(t, &c, value(1, "abc"), hole(2))
	puts(t, &c, Page{Addr: 1, Data: room[2:5]})
	handed("a!cdef")
	room[3] = '!'
	waits(t, &c, value(1, "cde"), hole(2))
	puts(t, &c, value(1, "gh"), value(0, "i"))
	handed("a!c!ef")
}

// The rule of memory: what is answered is apart, from the cache and from one another.
func TestAnswered(t *testing.T) {
	var c Cache
	puts(t, &c, value(1, "ab"), value(2, "cd"))
	p, _ := c.Get(1)
	all, same := c.All(), c.All()
	p.Data[0] = '!'
	all[1].Data[0] = '!'
	_ = append(all[0].Data, "xyz"...)
	all[0] = hole(9)
	_ = append(all[:1], hole(9))
	waits(t, &c, value(1, "ab"), value(2, "cd"))
	if !slices.EqualFunc(same, []Page{value(1, "ab"), value(2, "cd")}, equal) {
		t.Errorf("another answer is %v", same)
	}
	puts(t, &c, value(1, "ef"), value(0, "gh"))
	c.Drop(2)
	if !slices.EqualFunc(same, []Page{value(1, "ab"), value(2, "cd")}, equal) {
		t.Errorf("an answer has become %v", same)
	}
}

// model: what waits, by addresses.
type model map[int]Page

func (m model) put(p Page) api.Errno {
	_, ok := m[p.Addr]
	switch {
	case p.Addr < 0 || p.Addr > 65535:
		return api.ErrArg
	case len(p.Data) > 64:
		return api.ErrLong
	case !ok && len(m) == 8:
		return api.ErrBusy
	case p.Hole:
		p.Data = nil
	}
	m[p.Addr] = p
	return api.OK
}

func (m model) all() []Page {
	var all []Page
	for _, p := range m {
		all = append(all, p)
	}
	slices.SortFunc(all, func(p, q Page) int { return p.Addr - q.Addr })
	return all
}

// P11.1, P2: many calls against a model; another cache that is told the same answers the same.
func TestAgainstAModel(t *testing.T) {
	met := map[api.Errno]int{}
	for seed := range int64(100) {
		src := rand.New(rand.NewSource(seed))
		var c, same Cache
		m := model{}
		for range 150 {
			addr := src.Intn(14) - 1
			if src.Intn(9) == 0 {
				addr = 65530 + src.Intn(8)
			}
			if src.Intn(4) == 0 {
				c.Drop(addr)
				same.Drop(addr)
				delete(m, addr)
			} else {
				p := Page{Addr: addr, Data: make([]byte, src.Intn(66)), Hole: src.Intn(3) == 0}
				src.Read(p.Data)
				e := m.put(p)
				met[e]++
				want(t, "Put", c.Put(p), e)
				want(t, "Put of the same", same.Put(p), e)
			}
			waits(t, &c, m.all()...)
			if _, ok := m[addr]; !ok {
				nothing(t, &c, addr)
			}
			if t.Failed() {
				t.Fatalf("seed %d", seed)
			}
		}
		waits(t, &same, m.all()...)
	}
	for _, e := range []api.Errno{api.OK, api.ErrArg, api.ErrLong, api.ErrBusy} {
		if met[e] < 50 {
			t.Errorf("error %d was met but %d times", e, met[e])
		}
	}
}
