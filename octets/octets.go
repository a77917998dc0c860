// Package octets is numbers in bytes.
package octets

import (
	"dormouse/api"
)

// Get is the number of n bytes at a place, the lowest first; n 1, 2, 4 or 8.
func Get(b []byte, at uint64, n int) (uint64, api.Errno) {
	if e := check(b, at, n); e != api.OK {
		return 0, e
	}
	x := uint64(0)
	for i := range n {
		x |= uint64(b[at+uint64(i)]) << (8 * i)
	}
	return x, api.OK
}

// Set is a copy of bytes with a number of n bytes at a place, modulo 256^n.
func Set(b []byte, at uint64, n int, x uint64) ([]byte, api.Errno) {
	if e := check(b, at, n); e != api.OK {
		return nil, e
	}
	out := make([]byte, len(b))
	copy(out, b)
	for i := range n {
		out[at+uint64(i)] = byte(x >> (8 * i))
	}
	return out, api.OK
}

// Cut is a copy of so many bytes from a place on.
func Cut(b []byte, at, size uint64) ([]byte, api.Errno) {
	if !contains(b, at, size) {
		return nil, api.ErrRange
	}
	out := make([]byte, size)
	copy(out, b[at:at+size])
	return out, api.OK
}

// Up is the least multiple of a that isn't below x; a a power of 2.
func Up(x, a uint64) (uint64, api.Errno) {
	down, e := Down(x, a)
	if e != api.OK || down == x {
		return down, e
	}
	up := down + a
	// The next multiple is at most 2^64, so only that one comes round to 0.
	if up == 0 {
		return 0, api.ErrRange
	}
	return up, api.OK
}

// Down is the greatest multiple of a that isn't above x; a a power of 2.
func Down(x, a uint64) (uint64, api.Errno) {
	if a == 0 || a&(a-1) != 0 {
		return 0, api.ErrArg
	}
	return x &^ (a - 1), api.OK
}

// Meet tells whether two spans, of a place and a size, have a place in common.
func Meet(a, m, b, n uint64) bool {
	if m == 0 || n == 0 {
		return false
	}
	// The difference of the starts is exact, where a sum might go over 2^64.
	if a <= b {
		return b-a < m
	}
	return a-b < n
}

// check tells what is wrong with a number of n bytes at a place.
func check(b []byte, at uint64, n int) api.Errno {
	if n != 1 && n != 2 && n != 4 && n != 8 {
		return api.ErrArg
	}
	if !contains(b, at, uint64(n)) {
		return api.ErrRange
	}
	return api.OK
}

// contains tells whether a slice contains the span of a place and a size.
func contains(b []byte, at, size uint64) bool {
	length := uint64(len(b))
	// Held against what is left, since at + size might go over 2^64.
	return at <= length && size <= length-at
}
