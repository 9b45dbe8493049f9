package resv

import (
	"math"
	"slices"
	"testing"

	"drawbar/api"
)

// noHosts: numbers that are no host's.
func noHosts() []int {
	return []int{-1, -2, api.Hosts, api.Hosts + 1, 255, 1 << 32, math.MinInt, math.MaxInt}
}

// told: a command is done, with that error; beside one everything stays.
func told(t *testing.T, r api.Resv, h int, c api.Cmd, want api.Errno) api.Resv {
	t.Helper()
	next, e := Do(r, h, c)
	if e != want {
		t.Errorf("%v, host %d, %v: %d, want %d", r, h, c, e, want)
	}
	if e != api.OK && next != r {
		t.Errorf("%v, host %d, %v: error %d, and %v", r, h, c, e, next)
	}
	return next
}

func registers(t *testing.T, r api.Resv, h int, key uint32) api.Resv {
	t.Helper()
	return told(t, r, h, api.Cmd{Kind: api.Register, Key: r.Keys[h], New: key}, api.OK)
}

// three: the hosts 0, 1 and 5 are registrants, by the keys 7, 8 and 9.
func three(t *testing.T) api.Resv {
	t.Helper()
	return registers(t, registers(t, registers(t, None(), 0, 7), 1, 8), 5, 9)
}

// reservedBy: what is reserved by a type; the host 1 has done it.
func reservedBy(t *testing.T, kind byte) api.Resv {
	t.Helper()
	return told(t, three(t), 1, api.Cmd{Kind: api.Reserve, Key: 8, Type: kind}, api.OK)
}

// is: what is registered and reserved, whole.
func is(t *testing.T, r, want api.Resv) {
	t.Helper()
	if r != want {
		t.Errorf("%v, want %v", r, want)
	}
}

// ofHosts: the hosts for whom something holds.
func ofHosts(holds func(h int) bool) []int {
	var out []int
	for h := range api.Hosts {
		if holds(h) {
			out = append(out, h)
		}
	}
	return out
}

func all() []int {
	return ofHosts(func(int) bool { return true })
}

// may: who holds a reservation, who may read, who may write.
func may(t *testing.T, r api.Resv, holds, reads, writes []int) {
	t.Helper()
	if l := ofHosts(func(h int) bool { return Holds(r, h) }); !slices.Equal(l, holds) {
		t.Errorf("%v: Holds: %v, want %v", r, l, holds)
	}
	if l := ofHosts(func(h int) bool { return Permits(r, h, false) }); !slices.Equal(l, reads) {
		t.Errorf("%v: reads: %v, want %v", r, l, reads)
	}
	if l := ofHosts(func(h int) bool { return Permits(r, h, true) }); !slices.Equal(l, writes) {
		t.Errorf("%v: writes: %v, want %v", r, l, writes)
	}
	for _, h := range noHosts() {
		if Holds(r, h) || Permits(r, h, false) || Permits(r, h, true) {
			t.Errorf("%v: %d is no host", r, h)
		}
	}
}

// P12.1: the document's example.
func TestExample(t *testing.T) {
	r := told(t, None(), 0, api.Cmd{Kind: api.Register, New: 7}, api.OK)
	r = told(t, r, 0, api.Cmd{Kind: api.Reserve, Key: 7, Type: 1}, api.OK)
	if !Permits(r, 1, false) || Permits(r, 1, true) {
		t.Errorf("%v", r)
	}
}

// P12.1
func TestTypes(t *testing.T) {
	named := [6]byte{WriteExclusive, ExclusiveAccess, WriteRegistrants, AccessRegistrants, WriteAll, AccessAll}
	if want := [6]byte{1, 3, 5, 6, 7, 8}; named != want || Types() != want {
		t.Errorf("%v, Types = %v", named, Types())
	}
	for n := range 256 {
		want := n == 1 || n == 3 || n >= 5 && n <= 8
		if Right(byte(n)) != want {
			t.Errorf("Right(%d) = %t", n, !want)
		}
	}
}

// P12.1
func TestNone(t *testing.T) {
	is(t, None(), api.Resv{Keys: [8]uint32{}, Type: 0, Holder: -1, Gen: 0, Lasts: false})
	may(t, None(), nil, all(), all())
}

// P12.1: nothing is reserved: all may, who is registered or not.
func TestPermitsWhereNothingIsReserved(t *testing.T) {
	may(t, three(t), nil, all(), all())
	may(t, registers(t, None(), 7, math.MaxUint32), nil, all(), all())
}

// P12.1, P6: the host 1 has reserved, 0 and 5 are registrants, the others none.
func TestPermits(t *testing.T) {
	one, registrants := []int{1}, []int{0, 1, 5}
	for _, x := range []struct {
		kind                 byte
		holds, reads, writes []int
	}{
		{1, one, all(), one},
		{3, one, one, one},
		{5, one, all(), registrants},
		{6, one, registrants, registrants},
		{7, registrants, all(), registrants},
		{8, registrants, registrants, registrants},
	} {
		may(t, reservedBy(t, x.kind), x.holds, x.reads, x.writes)
	}
}

// P12.1: the first and the last host hold as others do.
func TestPermitsOfTheFirstAndTheLastHost(t *testing.T) {
	for _, h := range []int{0, 7} {
		for _, kind := range Types() {
			r := registers(t, None(), h, 1)
			r = told(t, r, h, api.Cmd{Kind: api.Reserve, Key: 1, Type: kind}, api.OK)
			reads := []int{h}
			if kind == 1 || kind == 5 || kind == 7 {
				reads = all()
			}
			may(t, r, []int{h}, reads, []int{h})
		}
	}
}

// P12.1, P6: who comes or goes behind a reservation is a registrant from then on, or no more.
func TestPermitsFollowsRegistrants(t *testing.T) {
	for _, x := range []struct {
		kind         byte
		holds, reads []int
	}{
		{5, []int{1}, all()},
		{6, []int{1}, []int{1, 3, 5}},
		{7, []int{1, 3, 5}, all()},
		{8, []int{1, 3, 5}, []int{1, 3, 5}},
	} {
		r := registers(t, registers(t, reservedBy(t, x.kind), 3, 4), 0, 0)
		may(t, r, x.holds, x.reads, []int{1, 3, 5})
	}
	for _, kind := range []byte{1, 3} {
		r := registers(t, reservedBy(t, kind), 3, 4)
		reads := []int{1}
		if kind == 1 {
			reads = all()
		}
		may(t, r, []int{1}, reads, []int{1})
	}
}

// P1: the calls end at all arguments, also where none of this layer's calls has answered what is handed in.
func TestCallsEndAtAllArguments(t *testing.T) {
	keys := []uint32{0, 1, 7, math.MaxUint32}
	hosts := append(noHosts(), all()...)
	for _, kind := range []byte{0, 1, 2, 3, 4, 5, 6, 7, 8, 9, 255} {
		for _, holder := range hosts {
			r := api.Resv{Keys: [8]uint32{7, 0, math.MaxUint32, 1}, Type: kind, Holder: holder, Gen: math.MaxUint32}
			for _, h := range hosts {
				Holds(r, h)
				if Permits(r, h, true) && !Permits(r, h, false) {
					t.Errorf("%v: %d writes, and doesn't read", r, h)
				}
				for command := range byte(12) {
					for _, key := range keys {
						c := api.Cmd{Kind: command, Lba: holder, Key: key, New: keys[int(command+kind)%4], Type: kind}
						if next, e := Do(r, h, c); e != api.OK && next != r {
							t.Errorf("%v, host %d, %v: error %d, and %v", r, h, c, e, next)
						}
					}
				}
			}
		}
	}
}
