package space

import (
	"coffer/api"
	"coffer/txn"
)

// bitmap has a bit for each home sector. There is room for more of them than a journal has.
type bitmap struct {
	bits  [api.Sector]byte
	homes int
}

func load(t *txn.Tx) (*bitmap, api.Errno) {
	b, e := t.Read(bitsAt)
	if e != api.OK {
		return nil, e
	}
	return &bitmap{bits: [api.Sector]byte(b), homes: t.Homes()}, api.OK
}

func (m *bitmap) store(t *txn.Tx) api.Errno {
	return t.Write(bitsAt, m.bits[:])
}

// isTaken is for home sectors alone.
func (m *bitmap) isTaken(i int) bool {
	return i < fixed || m.bits[i>>3]>>(i&7)&1 == 1
}

// flip turns n bits from start on.
func (m *bitmap) flip(start, n int) {
	for i := start; i < start+n; i++ {
		m.bits[i>>3] ^= 1 << (i & 7)
	}
}

// gap returns the first of the first n adjacent home sectors that are free, and false if there are no such ones.
func (m *bitmap) gap(n int) (int, bool) {
	free := 0
	for i := range m.homes {
		free++
		if m.isTaken(i) {
			free = 0
		}
		if free == n {
			return i + 1 - n, true
		}
	}
	return 0, false
}

// isExtent reports whether the n home sectors from start on exist and are allocated, but not for good.
func (m *bitmap) isExtent(start, n int) bool {
	// Not start+n > m.homes: that sum may be more than an int holds.
	if start < fixed || start > m.homes-n {
		return false
	}
	for i := start; i < start+n; i++ {
		if !m.isTaken(i) {
			return false
		}
	}
	return true
}
