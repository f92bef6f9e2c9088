package journal

import (
	"coffer/api"
	"coffer/octet"
)

const (
	tagSize = 8
	tailAt  = api.Sector - tagSize // where the second copy of a tag begins
)

// sector is a value, so that none is ever shared with a caller.
type sector [api.Sector]byte

// put lays v as n bytes at offset at on.
func (s *sector) put(at int, v uint64, n int) {
	b, _ := octet.Put(nil, v, n)
	copy(s[at:], b)
}

// number returns the number in the n bytes from offset at on.
func (s *sector) number(at, n int) uint64 {
	v, _ := octet.At(s[:], at, n)
	return v
}

func (s *sector) setTag(v uint64) {
	s.put(0, v, tagSize)
	s.put(tailAt, v, tagSize)
}

// tag returns 0, which no anchor and no header has as its tag, if the copies are not equal.
func (s *sector) tag() uint64 {
	v := s.number(0, tagSize)
	if v != s.number(tailAt, tagSize) {
		return 0
	}
	return v
}
