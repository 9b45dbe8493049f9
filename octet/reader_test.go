package octet

import (
	"bytes"
	"math"
	"testing"
)

// faulty: is that how a reader stands behind a fault, whatever it is asked?
func faulty(r *Reader) bool {
	return r.Bad() && !r.End() && r.Num(0, math.MaxUint64) == 0 && r.Num(1, 255) == 0 && r.Num(8, math.MaxUint64) == 0 && len(r.Bytes(65535)) == 0 && r.Bad() && !r.End()
}

// P1.2
func TestReaderReadsWhatWasLaid(t *testing.T) {
	p := Put(nil, 5, 1)
	p = Bytes(p, []byte("abc"))
	p = Put(p, math.MaxUint64, 8)
	p = Bytes(p, nil)
	p = Put(p, 1<<48-1, 6)
	r := Read(p)
	if n := r.Num(1, 5); n != 5 || r.End() || r.Bad() {
		t.Errorf("the first: %d", n)
	}
	if b := r.Bytes(3); string(b) != "abc" {
		t.Errorf("bytes: %q", b)
	}
	if n := r.Num(8, math.MaxUint64); n != math.MaxUint64 {
		t.Errorf("the greatest: %d", n)
	}
	if b := r.Bytes(0); len(b) != 0 || r.Bad() {
		t.Errorf("no bytes: %q", b)
	}
	if n := r.Num(6, 1<<48-1); n != 1<<48-1 || !r.End() || r.Bad() {
		t.Errorf("the last: %d", n)
	}
}

// P1.2
func TestNumFaults(t *testing.T) {
	p := some(9)
	for size := range 9 {
		n := Get(p[:size])
		if r := Read(p[:size]); r.Num(size, n) != n || r.Bad() || !r.End() {
			t.Errorf("size %d: a number at most", size)
		}
		if r := Read(p); r.Num(size, math.MaxUint64) != n || r.Bad() || r.End() {
			t.Errorf("size %d: more is there", size)
		}
		if n > 0 {
			if r := Read(p[:size]); r.Num(size, n-1) != 0 || !faulty(r) {
				t.Errorf("size %d: a number above most", size)
			}
			if r := Read(p[:size-1]); r.Num(size, math.MaxUint64) != 0 || !faulty(r) {
				t.Errorf("size %d: a byte too few", size)
			}
		}
	}
	if r := Read(nil); r.Num(0, 0) != 0 || r.Bad() || !r.End() {
		t.Error("a number of no bytes is no fault")
	}
	for _, size := range []int{math.MinInt, -1, 9, math.MaxInt} {
		if r := Read(p); r.Num(size, math.MaxUint64) != 0 || !faulty(r) {
			t.Errorf("size %d", size)
		}
	}
}

// P1.2
func TestBytesFaults(t *testing.T) {
	for _, n := range []int{0, 1, 300, 65535} {
		b := some(n)
		p := Bytes(nil, b)
		if r := Read(p); !bytes.Equal(r.Bytes(n), b) || r.Bad() || !r.End() {
			t.Errorf("%d bytes at most", n)
		}
		if r := Read(append(bytes.Clone(p), 1)); !bytes.Equal(r.Bytes(65535), b) || r.Bad() || r.End() {
			t.Errorf("%d bytes: more is there", n)
		}
		for _, most := range []int{n - 1, -1, math.MinInt} {
			if r := Read(p); len(r.Bytes(most)) != 0 || !faulty(r) {
				t.Errorf("%d bytes, most %d", n, most)
			}
		}
		if r := Read(p); !bytes.Equal(r.Bytes(math.MaxInt), b) {
			t.Errorf("%d bytes, the greatest most", n)
		}
		if r := Read(p[:len(p)-1]); len(r.Bytes(65535)) != 0 || !faulty(r) {
			t.Errorf("%d bytes: one too few", n)
		}
	}
	for n := range 2 {
		if r := Read(make([]byte, n)); len(r.Bytes(65535)) != 0 || !faulty(r) {
			t.Errorf("%d bytes don't tell how many follow", n)
		}
	}
}

// P1.2: what stands behind a fault isn't read, though it is there.
func TestFaultStays(t *testing.T) {
	p := Put(Bytes(nil, []byte("abc")), 7, 1)
	r := Read(p)
	if b := r.Bytes(2); len(b) != 0 || !faulty(r) {
		t.Errorf("%q", b)
	}
	for range len(p) {
		if r.Num(1, 255) != 0 || !faulty(r) {
			t.Error("a number behind a fault")
		}
	}
}

// P1.2
func TestEmptyAndNilReader(t *testing.T) {
	for _, p := range [][]byte{nil, {}} {
		if r := Read(p); r.Bad() || !r.End() {
			t.Error("of no bytes all is read")
		}
		if r := Read(p); r.Num(1, 255) != 0 || !faulty(r) {
			t.Error("of no bytes none is there")
		}
	}
	var r *Reader
	if !faulty(r) || r.Num(-1, 0) != 0 || len(r.Bytes(-1)) != 0 {
		t.Error("a nil reader")
	}
}

// The rule of memory: what a reader reads stays, and what it answers is apart.
func TestReaderAnswersNewMemory(t *testing.T) {
	p := Put(Bytes(nil, []byte("abc")), 7, 1)
	kept := bytes.Clone(p)
	r := Read(p)
	b := r.Bytes(3)
	b[0] = 'z'
	_ = append(b, 'z')
	if !bytes.Equal(p, kept) || r.Num(1, 7) != 7 || !r.End() {
		t.Errorf("%x", p)
	}
	b = Read(p).Bytes(3)
	p[2] = 'z'
	if string(b) != "abc" {
		t.Errorf("its answer changed: %q", b)
	}
}

// P2: readers of the same bytes know nothing of one another.
func TestReadersAreApart(t *testing.T) {
	p := Put(Put(nil, 1, 1), 2, 1)
	a, b := Read(p), Read(p)
	if a.Num(1, 0) != 0 || !a.Bad() || b.Num(1, 1) != 1 || b.Num(1, 2) != 2 || !b.End() || !a.Bad() {
		t.Error("one's fault is the other's")
	}
}
