package sheet

import (
	"bytes"
	"hash/crc32"
	"math"
	"slices"
	"testing"

	"drawbar/api"
)

// same: are these the same sheet? No data and empty data are.
func same(a, b Sheet) bool {
	return a.Kind == b.Kind && a.Epoch == b.Epoch && a.Seq == b.Seq && a.Addr == b.Addr && a.From == b.From && bytes.Equal(a.Data, b.Data)
}

func data(n int) []byte {
	p := make([]byte, n)
	for i := range p {
		p[i] = byte(255 - 3*i)
	}
	return p
}

// formed: sheets with Form, at all edges.
func formed() []Sheet {
	out := []Sheet{
		{Kind: Value, Epoch: 5, Seq: 7, Addr: 300, From: 2, Data: []byte("data")},
		{Kind: Hole, Epoch: 1, Seq: 2, Addr: 3, From: -1},
		{Kind: Claim, Epoch: 9, Seq: 9, Addr: 1, From: -1, Data: []byte{}},
		{Kind: Value, Epoch: 1<<48 - 1, Seq: 1<<48 - 1, Addr: 65535, From: api.MaxBlocks - 1, Data: bytes.Repeat([]byte{0xff}, api.DataSize)},
		{Kind: Value, Data: bytes.Repeat([]byte{0x5a}, api.DataSize)},
		{Kind: Hole, Epoch: 1<<48 - 1, Seq: 0x112233445566, Addr: 0x7788, From: 0},
		{Kind: Claim, Seq: 1<<48 - 1},
	}
	for n := range api.DataSize + 1 {
		out = append(out, Sheet{Kind: Value, Epoch: 3, Seq: uint64(n), Addr: 1, From: -1, Data: data(n)})
	}
	return out
}

// formless: sheets without Form, each by one part alone.
func formless() []Sheet {
	return []Sheet{
		{}, {From: -1}, {Kind: Claim + 1}, {Kind: 255}, {Kind: 0, Data: data(1)},
		{Kind: Value, Epoch: 1 << 48}, {Kind: Hole, Epoch: math.MaxUint64}, {Kind: Claim, Epoch: 1 << 48},
		{Kind: Value, Seq: 1 << 48}, {Kind: Hole, Seq: math.MaxUint64}, {Kind: Claim, Seq: 1 << 48},
		{Kind: Value, Addr: -1}, {Kind: Hole, Addr: 65536}, {Kind: Claim, Addr: math.MinInt}, {Kind: Value, Addr: math.MaxInt},
		{Kind: Value, From: -2}, {Kind: Hole, From: api.MaxBlocks}, {Kind: Claim, From: math.MinInt}, {Kind: Value, From: math.MaxInt},
		{Kind: Value, Data: data(api.DataSize + 1)}, {Kind: Value, Data: data(70000)}, {Kind: Hole, Data: data(1)}, {Kind: Claim, Data: data(1)}, {Kind: Claim, Data: data(api.DataSize)},
	}
}

// number: n in size bytes, the lowest first.
func number(n uint64, size int) []byte {
	var p []byte
	for i := range size {
		p = append(p, byte(n>>(8*i)))
	}
	return p
}

// head: the parts ahead of the data, and how many data there are told to be.
func head(kind byte, epoch, seq uint64, addr, from, size int) []byte {
	return slices.Concat([]byte{kind}, number(epoch, 6), number(seq, 6), number(uint64(addr), 2), number(uint64(from+1), 1), number(uint64(size), 2))
}

// page: bytes, noughts behind them, their sum, and the last byte.
func page(body []byte) []byte {
	p := make([]byte, api.PageSize-5)
	copy(p, body)
	return append(append(p, number(uint64(crc32.ChecksumIEEE(p)), 4)...), 0x5a)
}

func refuses(t *testing.T, what string, p []byte, want api.Errno) {
	t.Helper()
	if s, e := Read(p); e != want || !same(s, Sheet{}) {
		t.Errorf("%s: Read(%x) = %v, %d, want none, %d", what, p, s, e, want)
	}
}

// P4.1
func TestKinds(t *testing.T) {
	if Value != 1 || Hole != 2 || Claim != 3 {
		t.Errorf("kinds %d, %d, %d", Value, Hole, Claim)
	}
}

// P4.1
func TestForm(t *testing.T) {
	for _, s := range formed() {
		if !Form(s) {
			t.Errorf("Form(%v) = false", s)
		}
	}
	for _, s := range formless() {
		if Form(s) {
			t.Errorf("Form(%v) = true", s)
		}
	}
}

// P4.1
func TestLay(t *testing.T) {
	for _, s := range formed() {
		want := page(append(head(s.Kind, s.Epoch, s.Seq, s.Addr, s.From, len(s.Data)), s.Data...))
		if got := Lay(s); !bytes.Equal(got, want) || len(got) != api.PageSize || got[api.PageSize-1] != 0x5a {
			t.Errorf("Lay(%v) = %x, want %x", s, got, want)
		}
	}
}

// P4.1
func TestReadReadsWhatWasLaid(t *testing.T) {
	for _, s := range formed() {
		if got, e := Read(Lay(s)); e != api.OK || !same(got, s) {
			t.Errorf("Read = %v, %d, want %v", got, e, s)
		}
	}
}

// P4.1
func TestReadRefusesWhatIsNoPage(t *testing.T) {
	p := Lay(formed()[0])
	refuses(t, "none", nil, api.ErrForm)
	refuses(t, "the end alone", []byte{0x5a}, api.ErrForm)
	refuses(t, "a byte more", append(bytes.Clone(p), 0x5a), api.ErrForm)
	refuses(t, "a byte less", append(bytes.Clone(p[:94]), 0x5a), api.ErrForm)
	refuses(t, "noughts", make([]byte, api.PageSize), api.ErrForm)
	for b := range 256 {
		if b != 0x5a {
			refuses(t, "another end", append(bytes.Clone(p[:95]), byte(b)), api.ErrForm)
		}
	}
}

// P4.1: the last byte goes ahead of the sum, and the sum ahead of the rest of the form.
func TestReadToldBySum(t *testing.T) {
	for _, p := range [][]byte{Lay(formed()[0]), Lay(formed()[3]), page(nil)} {
		for i := range 8 * (api.PageSize - 1) {
			q := bytes.Clone(p)
			q[i/8] ^= 1 << (i % 8)
			refuses(t, "a bit turned", q, api.ErrSum)
			q[api.PageSize-1] = 0xff
			refuses(t, "a bit turned, and the end", q, api.ErrForm)
		}
	}
}

// P4.1: bytes with a right sum and end, that no sheet with Form has.
func TestReadRefusesWhatHasNoForm(t *testing.T) {
	laid := func(kind byte, from, size int, more []byte) []byte {
		return page(append(head(kind, 1, 2, 3, from, size), more...))
	}
	for what, p := range map[string][]byte{
		"noughts":              page(nil),
		"kind 0":               laid(0, -1, 0, nil),
		"kind 4":               laid(4, -1, 0, nil),
		"kind 255":             laid(255, -1, 0, nil),
		"From 64":              laid(Value, api.MaxBlocks, 0, nil),
		"From 254":             laid(Hole, 254, 0, nil),
		"65 data":              laid(Value, -1, 65, nil),
		"73 data":              laid(Value, -1, 73, data(73)),
		"74 data":              laid(Value, -1, 74, data(73)),
		"256 data":             laid(Value, -1, 256, nil),
		"65535 data":           laid(Value, -1, 65535, nil),
		"a Hole with data":     laid(Hole, -1, 1, []byte{1}),
		"a Hole with a nought": laid(Hole, -1, 1, nil),
		"a Claim with data":    laid(Claim, -1, 64, data(64)),
		"no nought":            laid(Value, -1, 2, []byte{1, 2, 1}),
		"no nought at last":    laid(Value, -1, 2, append(make([]byte, 72), 1)),
		"no nought in a Hole":  laid(Hole, -1, 0, append(make([]byte, 72), 1)),
	} {
		refuses(t, what, p, api.ErrForm)
	}
	if s, e := Read(laid(Value, 63, 64, data(64))); e != api.OK || s.From != 63 || !bytes.Equal(s.Data, data(64)) {
		t.Errorf("at the edges: %v, %d", s, e)
	}
}

// P4.2
func TestATornPageIsNone(t *testing.T) {
	for _, s := range formed() {
		p := Lay(s)
		for n := range api.PageSize {
			torn := append(bytes.Clone(p[:n]), bytes.Repeat([]byte{0xff}, api.PageSize-n)...)
			refuses(t, "ff at last", torn, api.ErrForm)
			refuses(t, "some are missing", p[:n], api.ErrForm)
		}
	}
}

// The rule of memory: what is handed in stays, and isn't kept.
func TestMemory(t *testing.T) {
	d := append(make([]byte, 0, 99), "data"...)
	room := d[4:99]
	s := Sheet{Kind: Value, Addr: 1, From: -1, Data: d}
	p := Lay(s)
	kept := bytes.Clone(p)
	if string(d) != "data" || !bytes.Equal(room, make([]byte, 95)) {
		t.Errorf("Lay changed %q, %x", d, room)
	}
	d[0] = 'z'
	if !bytes.Equal(p, kept) {
		t.Errorf("Lay's answer changed: %x", p)
	}
	got, _ := Read(p)
	_ = append(got.Data, "more"...)
	got.Data[0] = 'y'
	if !bytes.Equal(p, kept) {
		t.Errorf("Read changed %x", p)
	}
	got, _ = Read(p)
	clear(p)
	if string(got.Data) != "data" {
		t.Errorf("Read's answer changed: %q", got.Data)
	}
}

// P1
func TestCallsEndAtAllArguments(t *testing.T) {
	for _, s := range formless() {
		if p := Lay(s); len(p) != 0 {
			t.Errorf("Lay(%v) = %x: no sheet has this page", s, p)
		}
	}
	for n := range 300 {
		Read(data(n))
		Read(append(data(n), 0x5a))
		Read(page(data(n)))
	}
}

// P2
func TestAnswersHangOnArgumentsAlone(t *testing.T) {
	for _, s := range formed() {
		p := Lay(s)
		Lay(formed()[3])
		Read(nil)
		roomy := s
		roomy.Data = append(append(make([]byte, 0, 200), s.Data...), 9)[:len(s.Data)]
		if !bytes.Equal(Lay(roomy), p) {
			t.Errorf("Lay(%v) hangs on where its data stand", s)
		}
		a, e := Read(p)
		b, f := Read(append(bytes.Clone(p), 1)[:len(p)])
		if e != f || !same(a, b) {
			t.Errorf("read again: %v, %d, and %v, %d", a, e, b, f)
		}
	}
}
