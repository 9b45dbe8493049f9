package resv

import (
	"maps"
	"math"
	"math/rand"
	"slices"
	"testing"

	"drawbar/api"
)

// numbers: what a Resv's Gen, Type and Holder are.
func numbers(t *testing.T, r api.Resv, gen uint32, kind byte, holder int) {
	t.Helper()
	if r.Gen != gen || r.Type != kind || r.Holder != holder {
		t.Errorf("%v, want Gen %d, Type %d, Holder %d", r, gen, kind, holder)
	}
}

func keys(t *testing.T, r api.Resv, want ...uint32) {
	t.Helper()
	if !slices.Equal(r.Keys[:], want) {
		t.Errorf("keys %v, want %v", r.Keys, want)
	}
}

// P12.2: no host, no command of these, no right type: ErrArg ahead of a wrong key.
func TestRefusesArguments(t *testing.T) {
	for _, r := range []api.Resv{None(), three(t), reservedBy(t, 1), reservedBy(t, 8)} {
		for _, key := range []uint32{0, 7, 8, 99} {
			for _, h := range noHosts() {
				for command := range byte(12) {
					told(t, r, h, api.Cmd{Kind: command, Key: key, New: 8, Type: 1}, api.ErrArg)
				}
			}
			for _, h := range all() {
				for _, command := range []byte{api.Read, api.Write, api.Trim, api.Flush, api.Report, 10, 11, 255} {
					told(t, r, h, api.Cmd{Kind: command, Key: key, New: 8, Type: 1}, api.ErrArg)
				}
				for _, kind := range []byte{0, 2, 4, 9, 10, 128, 255} {
					for _, command := range []byte{api.Reserve, api.Release, api.Preempt} {
						told(t, r, h, api.Cmd{Kind: command, Key: key, New: 8, Type: kind}, api.ErrArg)
					}
				}
			}
		}
	}
}

// P12.2: Register and Clear ask for no type.
func TestTypePlaysNoPart(t *testing.T) {
	for _, kind := range []byte{0, 1, 2, 3, 4, 8, 9, 255} {
		r := told(t, three(t), 0, api.Cmd{Kind: api.Register, Key: 7, New: 70, Type: kind}, api.OK)
		keys(t, r, 70, 8, 0, 0, 0, 9, 0, 0)
		numbers(t, r, 4, 0, -1)
		is(t, told(t, r, 0, api.Cmd{Kind: api.Clear, Key: 70, Type: kind}, api.OK), api.Resv{Holder: -1, Gen: 5})
	}
}

// P12.2: a key that isn't the host's, or is none.
func TestRefusesKeys(t *testing.T) {
	for _, kind := range Types() {
		r := reservedBy(t, kind)
		for h, keys := range map[int][]uint32{0: {0, 8, 9, 6, math.MaxUint32}, 1: {0, 7, 9, 9}, 2: {0, 7, 8, 9}, 5: {0, 7, 8, 1}, 7: {0, 8, 9}} {
			for _, key := range keys {
				for _, command := range []byte{api.Reserve, api.Release, api.Clear, api.Preempt} {
					for _, other := range []uint32{0, 7, 8, key} {
						told(t, r, h, api.Cmd{Kind: command, Key: key, New: other, Type: kind}, api.ErrConflict)
					}
				}
				if key != r.Keys[h] {
					told(t, r, h, api.Cmd{Kind: api.Register, Key: key, New: 5}, api.ErrConflict)
					told(t, r, h, api.Cmd{Kind: api.Register, Key: key}, api.ErrConflict)
				}
			}
		}
	}
}

// P12.2
func TestRegister(t *testing.T) {
	r := told(t, None(), 3, api.Cmd{Kind: api.Register, New: 7, Lasts: true}, api.OK)
	is(t, r, api.Resv{Keys: [8]uint32{3: 7}, Holder: -1, Gen: 1, Lasts: true})
	r = told(t, r, 4, api.Cmd{Kind: api.Register, New: 7}, api.OK)
	is(t, r, api.Resv{Keys: [8]uint32{3: 7, 4: 7}, Holder: -1, Gen: 2})
	r = told(t, r, 3, api.Cmd{Kind: api.Register, Key: 7, New: 7, Lasts: true}, api.OK)
	is(t, r, api.Resv{Keys: [8]uint32{3: 7, 4: 7}, Holder: -1, Gen: 3, Lasts: true})
	r = told(t, r, 4, api.Cmd{Kind: api.Register, Key: 7, New: math.MaxUint32, Lasts: true}, api.OK)
	is(t, r, api.Resv{Keys: [8]uint32{3: 7, 4: math.MaxUint32}, Holder: -1, Gen: 4, Lasts: true})
	r = told(t, r, 3, api.Cmd{Kind: api.Register, Key: 7}, api.OK)
	is(t, r, api.Resv{Keys: [8]uint32{4: math.MaxUint32}, Holder: -1, Gen: 5})
	r = told(t, r, 3, api.Cmd{Kind: api.Register}, api.OK)
	is(t, r, api.Resv{Keys: [8]uint32{4: math.MaxUint32}, Holder: -1, Gen: 6})
	r = told(t, r, 4, api.Cmd{Kind: api.Register, Key: math.MaxUint32, Lasts: true}, api.OK)
	is(t, r, api.Resv{Holder: -1, Gen: 7, Lasts: true})
	is(t, told(t, r, 0, api.Cmd{Kind: api.Register}, api.OK), api.Resv{Holder: -1, Gen: 8})
}

// P12.2: another key changes nothing of what is reserved.
func TestRegisterAnotherKey(t *testing.T) {
	for _, kind := range Types() {
		r := reservedBy(t, kind)
		next := registers(t, registers(t, r, 1, 80), 2, 8)
		keys(t, next, 7, 80, 8, 0, 0, 9, 0, 0)
		numbers(t, next, r.Gen+2, kind, r.Holder)
	}
}

// P12.2: a registrant goes: the Holder, another one, and the last of all.
func TestRegisterNoKey(t *testing.T) {
	for _, kind := range Types() {
		r := reservedBy(t, kind)
		gone := registers(t, r, 1, 0)
		keys(t, gone, 7, 0, 0, 0, 0, 9, 0, 0)
		if kind == 7 || kind == 8 {
			numbers(t, gone, 4, kind, -1)
		} else {
			numbers(t, gone, 4, 0, -1)
		}
		stays := registers(t, registers(t, r, 0, 0), 2, 0)
		keys(t, stays, 0, 8, 0, 0, 0, 9, 0, 0)
		numbers(t, stays, 5, kind, r.Holder)
		stays = registers(t, stays, 5, 0)
		numbers(t, stays, 6, kind, r.Holder)
		is(t, registers(t, stays, 1, 0), api.Resv{Holder: -1, Gen: 7})
		if kind == 7 || kind == 8 {
			is(t, registers(t, registers(t, gone, 0, 0), 5, 0), api.Resv{Holder: -1, Gen: 6})
		}
	}
}

// P12.2
func TestReserve(t *testing.T) {
	for _, kind := range Types() {
		holder := 1
		if kind >= 7 {
			holder = -1
		}
		r := reservedBy(t, kind)
		keys(t, r, 7, 8, 0, 0, 0, 9, 0, 0)
		numbers(t, r, 3, kind, holder)
		for _, other := range Types() {
			e := api.ErrConflict
			if other == kind {
				e = api.OK
			}
			is(t, told(t, r, 1, api.Cmd{Kind: api.Reserve, Key: 8, Type: other}, e), r)
			if kind < 7 {
				e = api.ErrConflict
			}
			is(t, told(t, r, 5, api.Cmd{Kind: api.Reserve, Key: 9, Type: other}, e), r)
			is(t, told(t, r, 0, api.Cmd{Kind: api.Reserve, Key: 7, Type: other}, e), r)
		}
	}
}

// P12.2
func TestRelease(t *testing.T) {
	for _, kind := range Types() {
		r := reservedBy(t, kind)
		for _, other := range Types() {
			e := api.ErrArg
			if other == kind {
				e = api.OK
			}
			if next := told(t, r, 1, api.Cmd{Kind: api.Release, Key: 8, Type: other}, e); e == api.OK {
				is(t, next, three(t))
			}
			for h, key := range map[int]uint32{0: 7, 5: 9} {
				if kind < 7 {
					is(t, told(t, r, h, api.Cmd{Kind: api.Release, Key: key, Type: other}, api.OK), r)
				} else if next := told(t, r, h, api.Cmd{Kind: api.Release, Key: key, Type: other}, e); e == api.OK {
					is(t, next, three(t))
				}
			}
			is(t, told(t, three(t), 1, api.Cmd{Kind: api.Release, Key: 8, Type: other}, api.OK), three(t))
		}
	}
}

// P12.2: Lasts stays as the last Register has told it, whatever else is done.
func TestLastsStays(t *testing.T) {
	for _, lasts := range []bool{true, false} {
		r := told(t, three(t), 5, api.Cmd{Kind: api.Register, Key: 9, New: 9, Lasts: lasts}, api.OK)
		for _, c := range []api.Cmd{
			{Kind: api.Reserve, Key: 8, Type: 1}, {Kind: api.Release, Key: 8, Type: 1}, {Kind: api.Reserve, Key: 8, Type: 7},
			{Kind: api.Preempt, Key: 8, New: 7, Type: 1}, {Kind: api.Preempt, Key: 8, New: 0, Type: 1}, {Kind: api.Clear, Key: 8},
		} {
			c.Lasts = !lasts
			if r = told(t, r, 1, c, api.OK); r.Lasts != lasts {
				t.Errorf("%v: Lasts is %t", c, r.Lasts)
			}
		}
		is(t, r, api.Resv{Holder: -1, Gen: 7, Lasts: lasts})
	}
}

// P12.2: any registrant clears, whoever holds.
func TestClear(t *testing.T) {
	for _, kind := range Types() {
		for h, key := range map[int]uint32{0: 7, 1: 8, 5: 9} {
			is(t, told(t, reservedBy(t, kind), h, api.Cmd{Kind: api.Clear, Key: key, New: 9, Type: 1}, api.OK), api.Resv{Holder: -1, Gen: 4})
			is(t, told(t, three(t), h, api.Cmd{Kind: api.Clear, Key: key}, api.OK), api.Resv{Holder: -1, Gen: 4})
		}
	}
}

// preempts: a host takes away a key, by a type, with that error.
func preempts(t *testing.T, r api.Resv, h int, key uint32, kind byte, want api.Errno) api.Resv {
	t.Helper()
	return told(t, r, h, api.Cmd{Kind: api.Preempt, Key: r.Keys[h], New: key, Type: kind}, want)
}

// P12.2: those who aren't the Holder go, and what is reserved stays.
func TestPreemptOfOthers(t *testing.T) {
	for _, kind := range append([]byte{0}, 1, 3, 5, 6, 7, 8) {
		r := three(t)
		if kind > 0 {
			r = reservedBy(t, kind)
		}
		r = registers(t, registers(t, r, 3, 9), 7, 7)
		for _, other := range Types() {
			next := preempts(t, r, 0, 9, other, api.OK)
			keys(t, next, 7, 8, 0, 0, 0, 0, 0, 7)
			numbers(t, next, 6, kind, r.Holder)
			next = preempts(t, r, 0, 7, other, api.OK) // its own key: another host has it too
			keys(t, next, 7, 8, 0, 9, 0, 9, 0, 0)
			numbers(t, next, 6, kind, r.Holder)
			next = preempts(t, r, 1, 9, other, api.OK)
			keys(t, next, 7, 8, 0, 0, 0, 0, 0, 7)
			numbers(t, next, 6, kind, r.Holder)
			for _, key := range []uint32{1, 10, math.MaxUint32} {
				preempts(t, r, 0, key, other, api.ErrConflict)
				preempts(t, r, 1, key, other, api.ErrConflict)
			}
		}
	}
}

// P12.2: the Holder goes, or stays with its key: who has told it takes what is reserved.
func TestPreemptOfTheHolder(t *testing.T) {
	for _, kind := range []byte{1, 3, 5, 6} {
		r := registers(t, reservedBy(t, kind), 6, 8)
		for _, other := range Types() {
			holder := func(h int) int {
				if other >= 7 {
					return -1
				}
				return h
			}
			next := preempts(t, r, 5, 8, other, api.OK)
			keys(t, next, 7, 0, 0, 0, 0, 9, 0, 0)
			numbers(t, next, 5, other, holder(5))
			next = preempts(t, r, 6, 8, other, api.OK) // its own key, and the Holder's
			keys(t, next, 7, 0, 0, 0, 0, 9, 8, 0)
			numbers(t, next, 5, other, holder(6))
			next = preempts(t, r, 1, 8, other, api.OK) // the Holder itself, and another host with its key
			keys(t, next, 7, 8, 0, 0, 0, 9, 0, 0)
			numbers(t, next, 5, other, holder(1))
			next = preempts(t, reservedBy(t, kind), 1, 8, other, api.OK) // the Holder itself, alone
			keys(t, next, 7, 8, 0, 0, 0, 9, 0, 0)
			numbers(t, next, 4, other, holder(1))
			preempts(t, r, 5, 9, other, api.ErrConflict)
			preempts(t, r, 0, 7, other, api.ErrConflict)
		}
	}
}

// P12.2: the first and the last host, as the Holder and as who takes.
func TestPreemptOfTheFirstAndTheLastHost(t *testing.T) {
	for _, x := range [][2]int{{0, 7}, {7, 0}} {
		r := registers(t, registers(t, None(), x[0], 4), x[1], 5)
		r = told(t, r, x[0], api.Cmd{Kind: api.Reserve, Key: 4, Type: 3}, api.OK)
		next := preempts(t, r, x[1], 4, 5, api.OK)
		numbers(t, next, 3, 5, x[1])
		if next.Keys[x[0]] != 0 || next.Keys[x[1]] != 5 {
			t.Errorf("%v", next)
		}
	}
}

// P12.2: what all registrants hold has no Holder: it is taken by New 0 alone.
func TestPreemptOfAll(t *testing.T) {
	for _, kind := range []byte{7, 8} {
		r := reservedBy(t, kind)
		for _, other := range Types() {
			for h, key := range map[int]uint32{0: 7, 1: 8, 5: 9} {
				holder := h
				if other >= 7 {
					holder = -1
				}
				next := preempts(t, r, h, 0, other, api.OK)
				is(t, next, api.Resv{Keys: next.Keys, Type: other, Holder: holder, Gen: 4})
				want := [8]uint32{}
				want[h] = key
				keys(t, next, want[:]...)
				preempts(t, r, h, key, other, api.ErrConflict)
			}
			next := preempts(t, r, 0, 8, other, api.OK) // who has reserved is no more than the others are
			keys(t, next, 7, 0, 0, 0, 0, 9, 0, 0)
			numbers(t, next, 4, kind, -1)
			next = preempts(t, preempts(t, next, 0, 9, other, api.OK), 0, 0, other, api.OK) // nobody else is left
			keys(t, next, 7, 0, 0, 0, 0, 0, 0, 0)
		}
	}
}

// P12.2
func TestPreemptOfNoKey(t *testing.T) {
	for _, r := range []api.Resv{three(t), reservedBy(t, 1), reservedBy(t, 3), reservedBy(t, 5), reservedBy(t, 6)} {
		for _, kind := range Types() {
			preempts(t, r, 0, 0, kind, api.ErrArg)
			preempts(t, r, 1, 0, kind, api.ErrArg)
			told(t, r, 0, api.Cmd{Kind: api.Preempt, Key: 8, Type: kind}, api.ErrConflict) // its key is looked at ahead of that
		}
	}
}

// P12.2: what is kept aside changes nothing.
func TestOtherFieldsPlayNoPart(t *testing.T) {
	data := []byte("data")
	for command := api.Register; command <= api.Preempt; command++ {
		c := api.Cmd{Kind: command, Key: 8, New: 9, Type: 5}
		want, e := Do(reservedBy(t, 5), 1, c)
		c.Lba, c.Sure, c.Data = -5, true, data
		is(t, told(t, reservedBy(t, 5), 1, c, e), want)
	}
	if string(data) != "data" {
		t.Errorf("handed in: %q", data)
	}
}

// model is who has which key, and who holds, by the document's words: no host has the key 0, and of each type the holders are told by name.
type model struct {
	keys  map[int]uint32
	kind  byte
	first int // who holds, where one does
	gen   uint32
	lasts bool
}

func newModel() *model {
	return &model{keys: map[int]uint32{}, first: -1}
}

func (m *model) shared() bool {
	return m.kind == 7 || m.kind == 8
}

func (m *model) holders() []int {
	switch {
	case m.kind == 0:
		return nil
	case m.shared():
		return slices.Sorted(maps.Keys(m.keys))
	}
	return []int{m.first}
}

func (m *model) free() {
	m.kind, m.first = 0, -1
}

func (m *model) take(h int, kind byte) {
	if m.kind, m.first = kind, h; m.shared() {
		m.first = -1
	}
}

func (m *model) do(h int, c api.Cmd) api.Errno {
	if h < 0 || h > 7 || c.Kind < 4 || c.Kind > 8 {
		return api.ErrArg
	}
	if (c.Kind == 5 || c.Kind == 6 || c.Kind == 8) && !slices.Contains([]byte{1, 3, 5, 6, 7, 8}, c.Type) {
		return api.ErrArg
	}
	key, registered := m.keys[h]
	if key != c.Key || c.Kind != 4 && !registered {
		return api.ErrConflict
	}
	holds := slices.Contains(m.holders(), h)
	switch c.Kind {
	case 4:
		m.register(h, c)
	case 5:
		if m.kind == 0 {
			m.take(h, c.Type)
		} else if !holds || m.kind != c.Type {
			return api.ErrConflict
		}
	case 6:
		if holds && m.kind != c.Type {
			return api.ErrArg
		} else if holds {
			m.free()
		}
	case 7:
		m.keys = map[int]uint32{}
		m.free()
		m.gen++
	case 8:
		return m.preempt(h, c)
	}
	return api.OK
}

func (m *model) register(h int, c api.Cmd) {
	m.gen++
	m.lasts = c.Lasts
	if c.New != 0 {
		m.keys[h] = c.New
		return
	}
	delete(m.keys, h)
	if len(m.keys) == 0 || m.first == h {
		m.free()
	}
}

func (m *model) preempt(h int, c api.Cmd) api.Errno {
	if c.New == 0 && !m.shared() {
		return api.ErrArg
	}
	var gone []int
	for other, key := range m.keys {
		if other != h && (c.New == 0 || key == c.New) {
			gone = append(gone, other)
		}
	}
	takes := c.New == 0 || m.first >= 0 && (slices.Contains(gone, m.first) || m.first == h && m.keys[h] == c.New)
	if len(gone) == 0 && !takes {
		return api.ErrConflict
	}
	for _, other := range gone {
		delete(m.keys, other)
	}
	if takes {
		m.take(h, c.Type)
	}
	m.gen++
	return api.OK
}

// agrees holds what is registered and reserved against the model.
func (m *model) agrees(t *testing.T, r api.Resv) {
	t.Helper()
	want := api.Resv{Type: m.kind, Holder: m.first, Gen: m.gen, Lasts: m.lasts}
	for h, key := range m.keys {
		want.Keys[h] = key
	}
	is(t, r, want)
	registrants := slices.Sorted(maps.Keys(m.keys))
	reads, writes := all(), all()
	switch m.kind {
	case 1:
		writes = m.holders()
	case 3:
		reads, writes = m.holders(), m.holders()
	case 5, 7:
		writes = registrants
	case 6, 8:
		reads, writes = registrants, registrants
	}
	may(t, r, m.holders(), reads, writes)
}

// someCommand: of few hosts, keys and types, so that they meet; mostly with the host's key.
func someCommand(src *rand.Rand, r api.Resv) (int, api.Cmd) {
	h := src.Intn(4)
	if src.Intn(12) == 0 {
		h = src.Intn(10) - 1
	}
	kinds := []byte{4, 4, 4, 5, 5, 6, 8, 8, byte(src.Intn(12))}
	types := Types()
	c := api.Cmd{Kind: kinds[src.Intn(len(kinds))], Key: uint32(src.Intn(4)), New: uint32(src.Intn(4)), Type: types[src.Intn(6)], Lasts: src.Intn(2) == 0}
	if h >= 0 && h < 8 && src.Intn(8) > 0 {
		c.Key = r.Keys[h]
	}
	if src.Intn(3) == 0 && r.Type > 0 {
		c.Type = r.Type
	}
	if src.Intn(20) == 0 {
		c.Type = byte(src.Intn(11))
	}
	return h, c
}

// P12.1, P12.2, P6, P2: many commands against a model.
func TestAgainstAModel(t *testing.T) {
	met := map[[2]int]int{}
	for seed := range int64(300) {
		src := rand.New(rand.NewSource(seed))
		r, m := None(), newModel()
		for range 150 {
			h, c := someCommand(src, r)
			e := m.do(h, c)
			met[[2]int{int(c.Kind), int(e)}]++
			next := told(t, r, h, c, e)
			is(t, told(t, r, h, c, e), next)
			r = next
			m.agrees(t, r)
			if t.Failed() {
				t.Fatalf("seed %d: host %d, %v", seed, h, c)
			}
		}
	}
	for kind, errors := range map[byte][]api.Errno{
		api.Register: {api.OK, api.ErrConflict},
		api.Reserve:  {api.OK, api.ErrArg, api.ErrConflict},
		api.Release:  {api.OK, api.ErrArg, api.ErrConflict},
		api.Clear:    {api.OK, api.ErrConflict},
		api.Preempt:  {api.OK, api.ErrArg, api.ErrConflict},
	} {
		for _, e := range errors {
			if n := met[[2]int{int(kind), int(e)}]; n < 50 {
				t.Errorf("command %d: error %d was met but %d times", kind, e, n)
			}
		}
	}
}

// P6: who isn't a registrant changes nothing but by Register, and by that nothing of what others have.
func TestStrangersChangeNothing(t *testing.T) {
	for _, kind := range Types() {
		r := reservedBy(t, kind)
		for command := range byte(12) {
			for _, key := range []uint32{0, 7, 8, 9} {
				for _, other := range append([]byte{0}, 1, 3, 5, 6, 7, 8) {
					next, _ := Do(r, 2, api.Cmd{Kind: command, Key: key, New: 8, Type: other})
					if next.Keys[2] = 0; next.Keys != r.Keys || next.Type != r.Type || next.Holder != r.Holder {
						t.Errorf("command %d, key %d: %v, behind %v", command, key, next, r)
					}
				}
			}
		}
	}
}
