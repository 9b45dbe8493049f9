package octet

import "bytes"

// Reader reads what was laid; behind its first fault it reads noughts.
type Reader struct {
	rest []byte // what isn't read yet
	bad  bool
}

// Read: a reader of some bytes.
func Read(p []byte) *Reader {
	return &Reader{rest: p}
}

// Num: the next size bytes (0 to 8) as a number; a fault: there are fewer, or it is above most. Another size is a fault too.
func (r *Reader) Num(size int, most uint64) uint64 {
	n := Get(r.next(size, numSize))
	if n > most {
		r.bad = true
		return 0
	}
	return n
}

// Bytes: the next bytes, as Bytes lays them; a fault: they aren't there, or are more than most.
func (r *Reader) Bytes(most int) []byte {
	n := r.Num(lenSize, maxLen)
	return bytes.Clone(r.next(int(n), most))
}

// Bad: was there a fault? A nil Reader is one itself.
func (r *Reader) Bad() bool {
	return r == nil || r.bad
}

// End: was all read, without a fault?
func (r *Reader) End() bool {
	return !r.Bad() && len(r.rest) == 0
}

// next takes the next size bytes; a fault: size is above most, or there are fewer.
func (r *Reader) next(size, most int) []byte {
	if r.Bad() {
		return nil
	}
	if size < 0 || size > most || size > len(r.rest) {
		r.bad = true
		return nil
	}
	p := r.rest[:size]
	r.rest = r.rest[size:]
	return p
}
