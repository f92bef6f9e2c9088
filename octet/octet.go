// Package octet encodes and decodes integers, byte strings and bits: see doc/01-octet.md.
package octet

import (
	"math/bits"

	"coffer/api"
)

const (
	byteBits  = 8
	maxWidth  = 8 // bytes of the widest number
	wordBits  = 64
	groupBits = 7              // bits of a number that a byte of a varint carries
	more      = 1 << groupBits // marks a byte of a varint that another one follows
	lastGroup = 9              // the tenth byte has room for the 64th bit alone
)

// Put returns b followed by v as n bytes in big-endian order.
func Put(b []byte, v uint64, n int) ([]byte, api.Errno) {
	if !mayWidth(n) {
		return nil, api.ErrArg
	}
	if v>>(byteBits*n) != 0 {
		return nil, api.ErrLong
	}
	out := copyWithRoom(b, n)
	for shift := byteBits * (n - 1); shift >= 0; shift -= byteBits {
		out = append(out, byte(v>>shift))
	}
	return out, api.OK
}

// At returns the big-endian number in the n bytes of b from offset at on.
func At(b []byte, at, n int) (uint64, api.Errno) {
	if !mayWidth(n) || at < 0 {
		return 0, api.ErrArg
	}
	// Not at+n > len(b): that sum may be more than an int holds.
	if at > len(b)-n {
		return 0, api.ErrShort
	}
	var v uint64
	for _, c := range b[at : at+n] {
		v = v<<byteBits | uint64(c)
	}
	return v, api.OK
}

// Count returns b followed by v as a varint.
func Count(b []byte, v uint64) []byte {
	return appendCount(copyWithRoom(b, countLen(v)), v)
}

// TakeCount decodes the varint at the beginning of b; it returns the number and the varint's length.
func TakeCount(b []byte) (uint64, int, api.Errno) {
	var v uint64
	for i, c := range b {
		if i == lastGroup && c > 1 || i > 0 && c == 0 {
			return 0, 0, api.ErrSyntax
		}
		v |= uint64(c&^more) << (groupBits * i)
		if c < more {
			return v, i + 1, api.OK
		}
	}
	return 0, 0, api.ErrShort
}

// Text returns b followed by the length of s as a varint, and s.
func Text(b, s []byte) ([]byte, api.Errno) {
	if len(s) > api.MaxText {
		return nil, api.ErrLong
	}
	size := uint64(len(s))
	out := copyWithRoom(b, countLen(size)+len(s))
	return append(appendCount(out, size), s...), api.OK
}

// TakeText decodes the byte string at the beginning of b; it returns it and the length of its whole encoding.
func TakeText(b []byte) ([]byte, int, api.Errno) {
	size, at, e := TakeCount(b)
	if e != api.OK {
		return nil, 0, e
	}
	if size > api.MaxText {
		return nil, 0, api.ErrLong
	}
	if size > uint64(len(b)-at) {
		return nil, 0, api.ErrShort
	}
	end := at + int(size)
	return copyWithRoom(b[at:end], 0), end, api.OK
}

// Zig maps signed numbers to unsigned ones, those near 0 to small ones.
func Zig(v int64) uint64 {
	return uint64(v)<<1 ^ uint64(v>>(wordBits-1))
}

// Zag is the inverse of Zig.
func Zag(u uint64) int64 {
	return int64(u>>1) ^ -int64(u&1)
}

// Bit reports whether bit i of b is set.
func Bit(b []byte, i int) (bool, api.Errno) {
	if !hasBit(b, i) {
		return false, api.ErrArg
	}
	return b[i/byteBits]>>(i%byteBits)&1 == 1, api.OK
}

// SetBit returns b with bit i set if on is true, and cleared otherwise.
func SetBit(b []byte, i int, on bool) ([]byte, api.Errno) {
	if !hasBit(b, i) {
		return nil, api.ErrArg
	}
	out := copyWithRoom(b, 0)
	mask := byte(1) << (i % byteBits)
	if on {
		out[i/byteBits] |= mask
	} else {
		out[i/byteBits] &^= mask
	}
	return out, api.OK
}

// Wrap returns the low n bits of v as a number in two's complement, or 0 if n is not from 1 to 64.
func Wrap(v uint64, n int) int64 {
	if n < 1 || n > wordBits {
		return 0
	}
	// The way up throws the high bits away; the way down, of a signed number, repeats the sign.
	unused := wordBits - n
	return int64(v<<unused) >> unused
}

func mayWidth(n int) bool {
	return n >= 1 && n <= maxWidth
}

func hasBit(b []byte, i int) bool {
	return i >= 0 && i/byteBits < len(b)
}

// copyWithRoom returns new memory, so that what is appended to it never lands in b's unused capacity.
func copyWithRoom(b []byte, room int) []byte {
	return append(make([]byte, 0, len(b)+room), b...)
}

func countLen(v uint64) int {
	return max(1, (bits.Len64(v)+groupBits-1)/groupBits)
}

func appendCount(b []byte, v uint64) []byte {
	for ; v >= more; v >>= groupBits {
		b = append(b, byte(v)|more)
	}
	return append(b, byte(v))
}
