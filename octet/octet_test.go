package octet

import (
	"bytes"
	"hash/crc32"
	"math"
	"math/rand"
	"testing"

	"drawbar/api"
)

// some: bytes that are the same in every run.
func some(n int) []byte {
	p := make([]byte, n)
	rand.New(rand.NewSource(int64(n) + 1)).Read(p)
	return p
}

// roomy: the same bytes, with room behind them that is another's.
func roomy(p []byte) (q, room []byte) {
	all := append(append(make([]byte, 0, len(p)+80), p...), bytes.Repeat([]byte{0xee}, 80)...)
	return all[:len(p)], all[len(p):]
}

// P1.1
func TestSum(t *testing.T) {
	for text, want := range map[string]uint32{"": 0, "123456789": 0xcbf43926, "a": 0xe8b7be43, "\x00": 0xd202ef8d, "\xff\xff\xff\xff": 0xffffffff} {
		if got := Sum([]byte(text)); got != want {
			t.Errorf("Sum(%q) = %x, want %x", text, got, want)
		}
	}
	for n := range 300 {
		if p := some(n); Sum(p) != crc32.ChecksumIEEE(p) {
			t.Errorf("Sum of %d bytes = %x", n, Sum(p))
		}
	}
	for b := range 256 {
		if p := []byte{byte(b)}; Sum(p) != crc32.ChecksumIEEE(p) {
			t.Errorf("Sum(%x) = %x", p, Sum(p))
		}
	}
}

// P1.1
func TestPut(t *testing.T) {
	if got := Put(nil, 300, 2); !bytes.Equal(got, []byte{0x2c, 1}) {
		t.Errorf("Put(none, 300, 2) = %x", got)
	}
	lowest := []byte{0x88, 0x77, 0x66, 0x55, 0x44, 0x33, 0x22, 0x11}
	for size := 1; size <= 8; size++ {
		want := append([]byte("ahead"), lowest[:size]...)
		if got := Put([]byte("ahead"), 0x1122334455667788, size); !bytes.Equal(got, want) {
			t.Errorf("size %d: %x, want %x", size, got, want)
		}
	}
	if got := Put(nil, math.MaxUint64, 8); !bytes.Equal(got, bytes.Repeat([]byte{0xff}, 8)) {
		t.Errorf("the greatest number: %x", got)
	}
	if got := Put(nil, 0, 3); !bytes.Equal(got, []byte{0, 0, 0}) {
		t.Errorf("nought: %x", got)
	}
}

// P1.1
func TestGet(t *testing.T) {
	p := []byte{0x88, 0x77, 0x66, 0x55, 0x44, 0x33, 0x22, 0x11}
	for size := range 9 {
		want := uint64(0x1122334455667788)
		if size < 8 {
			want &= 1<<(8*size) - 1
		}
		if got := Get(p[:size]); got != want {
			t.Errorf("%d bytes: %x, want %x", size, got, want)
		}
	}
	for _, n := range []uint64{0, 1, 255, 256, 1<<48 - 1, math.MaxUint64} {
		if got := Get(Put(nil, n, 8)); got != n {
			t.Errorf("Get of Put of %d = %d", n, got)
		}
	}
}

// P1.1
func TestBytes(t *testing.T) {
	for _, n := range []int{0, 1, 255, 256, 65535} {
		b := some(n)
		want := append([]byte{'p', byte(n), byte(n >> 8)}, b...)
		if got := Bytes([]byte("p"), b); !bytes.Equal(got, want) {
			t.Errorf("of %d bytes: %d bytes, or others", n, len(got))
		}
	}
	if got := Bytes(nil, nil); !bytes.Equal(got, []byte{0, 0}) {
		t.Errorf("of none: %x", got)
	}
}

// P1.1
func TestSealAndOpen(t *testing.T) {
	for n := range 100 {
		p := some(n)
		sum := crc32.ChecksumIEEE(p)
		want := append(bytes.Clone(p), byte(sum), byte(sum>>8), byte(sum>>16), byte(sum>>24))
		sealed := Seal(p)
		if !bytes.Equal(sealed, want) {
			t.Errorf("Seal(%x) = %x", p, sealed)
		}
		if got, e := Open(sealed); e != api.OK || !bytes.Equal(got, p) {
			t.Errorf("Open(%x) = %x, %d", sealed, got, e)
		}
	}
}

// P1.1
func TestOpenRefuses(t *testing.T) {
	for n := range 4 {
		if got, e := Open(make([]byte, n)); e != api.ErrForm || len(got) != 0 {
			t.Errorf("of %d bytes: %x, %d", n, got, e)
		}
	}
	if got, e := Open(nil); e != api.ErrForm || len(got) != 0 {
		t.Errorf("of none: %x, %d", got, e)
	}
	for _, p := range [][]byte{{0, 0, 0, 1}, []byte("abcdefgh"), append(Seal([]byte("ab")), 0), Seal([]byte("ab"))[1:]} {
		if got, e := Open(p); e != api.ErrSum || len(got) != 0 {
			t.Errorf("Open(%x) = %x, %d", p, got, e)
		}
	}
}

// The rule of memory: what is handed in, and what stands in the room behind it, stays; what is answered is apart.
func TestWhatIsAppendedStandsElsewhere(t *testing.T) {
	calls := map[string]func(p []byte) []byte{
		"Put":   func(p []byte) []byte { return Put(p, 7, 3) },
		"Bytes": func(p []byte) []byte { return Bytes(p, []byte("xyz")) },
		"Seal":  Seal,
	}
	for name, call := range calls {
		p, room := roomy([]byte("abc"))
		got := call(p)
		want := bytes.Clone(got)
		if string(p) != "abc" || !bytes.Equal(room, bytes.Repeat([]byte{0xee}, len(room))) {
			t.Errorf("%s changed %x, %x", name, p, room)
		}
		p[0], room[0] = 'z', 0
		if !bytes.Equal(got, want) {
			t.Errorf("%s: its answer isn't apart", name)
		}
	}
	all := []byte("abcdefgh")
	if got := Bytes(all[:2], all[2:6]); string(got) != "ab\x04\x00cdef" || string(all) != "abcdefgh" {
		t.Errorf("bytes that stand in the room: %q, %q", got, all)
	}
}

func TestOpenAnswersNewMemory(t *testing.T) {
	sealed := Seal([]byte("abc"))
	kept := bytes.Clone(sealed)
	got, _ := Open(sealed)
	got[0] = 'z'
	_ = append(got, "zzzz"...)
	if !bytes.Equal(sealed, kept) {
		t.Errorf("Open's answer is %x itself", sealed)
	}
	got, _ = Open(sealed)
	sealed[0] = 'z'
	if string(got) != "abc" {
		t.Errorf("Open's answer changed: %q", got)
	}
}

// turned: the bits of mask, from the bit first on, turned.
func turned(p []byte, first int, mask uint32) []byte {
	p = bytes.Clone(p)
	for i := range 32 {
		if at := first + i; mask>>i&1 == 1 && at < 8*len(p) {
			p[at/8] ^= 1 << (at % 8)
		}
	}
	return p
}

func tellsTurned(t *testing.T, sealed []byte, first int, mask uint32) {
	t.Helper()
	p := turned(sealed, first, mask)
	if bytes.Equal(p, sealed) {
		return
	}
	if got, e := Open(p); e != api.ErrSum || len(got) != 0 {
		t.Fatalf("%d bytes, bits %032b from %d on: %x, %d", len(sealed), mask, first, got, e)
	}
}

// P1.3
func TestTurnedBitsAreTold(t *testing.T) {
	masks := []uint32{math.MaxUint32, 1 << 31, 1<<31 | 1, 0x80000001, 0xaaaaaaaa, 0xedb88320, 0xdb710641, 0x04c11db7}
	src := rand.New(rand.NewSource(3))
	for range 60 {
		masks = append(masks, src.Uint32())
	}
	for mask := range 256 {
		masks = append(masks, uint32(mask))
	}
	for _, n := range []int{0, 1, 2, 3, 4, 5, 16, 64, 92} {
		sealed := Seal(some(n))
		for first := range 8 * len(sealed) {
			for _, mask := range masks {
				tellsTurned(t, sealed, first, mask)
			}
		}
	}
}

// P1
func TestCallsEndAtAllArguments(t *testing.T) {
	sizes := []int{math.MinInt, -1, 0, 1, 7, 8, 9, 64, math.MaxInt}
	lists := [][]byte{nil, {}, {1}, some(3), some(4), some(9), some(65536), some(70000)}
	for _, p := range lists {
		for _, size := range sizes {
			got := Put(p, math.MaxUint64, size)
			if !bytes.HasPrefix(got, p) || len(got) > len(p)+8 {
				t.Errorf("Put at %d bytes, size %d: %d bytes", len(p), size, len(got))
			}
		}
		Sum(p)
		Get(p)
		Open(p)
		for _, b := range lists {
			if got := Read(Bytes(p, b)[len(p):]).Bytes(65535); !bytes.Equal(got, b[:min(len(b), 65535)]) {
				t.Errorf("Bytes of %d bytes: %d can be read", len(b), len(got))
			}
		}
	}
}

// P2
func TestAnswersHangOnArgumentsAlone(t *testing.T) {
	for n := range 40 {
		p := some(n)
		q, _ := roomy(p)
		r := append(bytes.Clone(p), 0)[:n]
		for _, x := range [][]byte{q, r} {
			if Sum(x) != Sum(p) || Get(x) != Get(p) || !bytes.Equal(Seal(x), Seal(p)) || !bytes.Equal(Put(x, 5, 4), Put(p, 5, 4)) || !bytes.Equal(Bytes(x, x), Bytes(p, p)) {
				t.Errorf("%d bytes: it hangs on where they stand", n)
			}
		}
		sealed := Seal(p)
		first, _ := Open(sealed)
		Open(nil)
		again, _ := Open(sealed)
		if !bytes.Equal(first, again) {
			t.Errorf("%d bytes: opened again they are others", n)
		}
	}
}
