// Package octet is layer 1: numbers as bytes, and sums. See shared/doc/01-octet.md.
package octet

import (
	"bytes"

	"drawbar/api"
)

const (
	numSize = 8     // bytes of the greatest number
	sumSize = 4     // bytes of a sum
	lenSize = 2     // bytes that tell how many bytes follow
	maxLen  = 65535 // what lenSize bytes can tell
)

// nibbles are the remainders of four bits by the polynomial edb88320: a table of whole bytes would be too long for package level.
var nibbles = [16]uint32{
	0x00000000, 0x1db71064, 0x3b6e20c8, 0x26d930ac,
	0x76dc4190, 0x6b6b51f4, 0x4db26158, 0x5005713c,
	0xedb88320, 0xf00f9344, 0xd6d6a3e8, 0xcb61b38c,
	0x9b64c2b0, 0x86d3d2d4, 0xa00ae278, 0xbdbdf21c,
}

// Sum: CRC-32.
func Sum(p []byte) uint32 {
	rest := ^uint32(0)
	for _, b := range p {
		rest ^= uint32(b)
		rest = rest>>4 ^ nibbles[rest&15]
		rest = rest>>4 ^ nibbles[rest&15]
	}
	return ^rest
}

// Put: behind p the lowest size bytes of n (1 to 8), the lowest first. A size outside of these is taken as the nearest that n has: none, or all 8.
func Put(p []byte, n uint64, size int) []byte {
	p = apart(p)
	for i := range min(size, numSize) {
		p = append(p, byte(n>>(8*i)))
	}
	return p
}

// Get: the number of some bytes, the lowest first; of more than 8 that of the first 8.
func Get(p []byte) uint64 {
	n := uint64(0)
	for i := range min(len(p), numSize) {
		n |= uint64(p[i]) << (8 * i)
	}
	return n
}

// Bytes: behind p: how many bytes b has, in two bytes, and these. Of more than 65535 it lays the first 65535, so that what it lays can be read.
func Bytes(p, b []byte) []byte {
	b = b[:min(len(b), maxLen)]
	return append(Put(p, uint64(len(b)), lenSize), b...)
}

// Seal: p, and its sum behind it.
func Seal(p []byte) []byte {
	return Put(p, uint64(Sum(p)), sumSize)
}

// Open: the bytes that were sealed.
func Open(p []byte) ([]byte, api.Errno) {
	n := len(p) - sumSize
	if n < 0 {
		return nil, api.ErrForm
	}
	if Get(p[n:]) != uint64(Sum(p[:n])) {
		return nil, api.ErrSum
	}
	return bytes.Clone(p[:n]), api.OK
}

// apart cuts the room behind p off, so that what is appended stands elsewhere: that room may be another's, even that of the very bytes that are to be laid.
func apart(p []byte) []byte {
	return p[:len(p):len(p)]
}
