// Package octets is layer 1: see shared/doc/01-octets.md.
package octets

import (
	"math"

	"mezzotint/api"
)

// Add is a sum, if it isn't too great.
func Add(a, b uint64) (uint64, api.Errno) {
	if b > math.MaxUint64-a {
		return 0, api.ErrOver
	}
	return a + b, api.OK
}

// Mul is a product, if it isn't too great.
func Mul(a, b uint64) (uint64, api.Errno) {
	if a != 0 && b > math.MaxUint64/a {
		return 0, api.ErrOver
	}
	return a * b, api.OK
}

// Window is so many bytes from a place on.
func Window(b []byte, at, n uint64) ([]byte, api.Errno) {
	if !within(b, at, n) {
		return nil, api.ErrCut
	}
	window := make([]byte, n)
	copy(window, b[at:])
	return window, api.OK
}

// Get is the number of so many bytes at a place.
func Get(b []byte, at uint64, size int, big bool) (uint64, api.Errno) {
	if !isSize(size) {
		return 0, api.ErrArg
	}
	if !within(b, at, uint64(size)) {
		return 0, api.ErrCut
	}
	var n uint64
	for i := range size {
		n |= uint64(b[at+uint64(i)]) << shift(i, size, big)
	}
	return n, api.OK
}

// Put is a number in so many bytes.
func Put(n uint64, size int, big bool) ([]byte, api.Errno) {
	if !isSize(size) {
		return nil, api.ErrArg
	}
	if !fits(n, size) {
		return nil, api.ErrOver
	}
	b := make([]byte, size)
	for i := range b {
		b[i] = byte(n >> shift(i, size, big))
	}
	return b, api.OK
}

// within tells whether the n bytes from a place on are all there. It
// subtracts, because the sum of the place and n may go beyond 2^64.
func within(b []byte, at, n uint64) bool {
	length := uint64(len(b))
	return at <= length && n <= length-at
}

// isSize tells whether a number may have so many bytes.
func isSize(size int) bool {
	return size == 1 || size == 2 || size == 4 || size == 8
}

// fits tells whether a number goes into so many bytes. Eight bytes take any;
// they need no case of their own, since a shift by 64 bits leaves nothing.
func fits(n uint64, size int) bool {
	return n>>(8*uint(size)) == 0
}

// shift is how many bits of a number of so many bytes are below its byte i.
func shift(i, size int, big bool) uint {
	if big {
		return 8 * uint(size-1-i)
	}
	return 8 * uint(i)
}
