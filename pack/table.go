package pack

import (
	"coffer/api"
	"coffer/frame"
	"coffer/octet"
	"coffer/space"
	"coffer/txn"
)

const (
	tableAt   = 2 // the first home sector of the pack table
	entrySize = 16
	fieldSize = 4
)

// entry is what the pack table holds of a pack. If there is no such pack, it is zero.
type entry struct{ start, used, live int }

// table has the entries of all packs, by their numbers.
type table [api.MaxPacks]entry

func loadTable(t *txn.Tx) (*table, api.Errno) {
	b, e := read(t, tableAt, 0, entrySize*api.MaxPacks)
	if e != api.OK {
		return nil, e
	}
	l := new(table)
	for n := range l {
		l[n] = parse(b[entrySize*n:])
	}
	return l, api.OK
}

// withRoom returns the least number of a pack, but not of the one of the number but, that has room for size bytes. It
// returns false if there is none.
func (l *table) withRoom(size, but int) (int, bool) {
	for n, m := range l {
		if n != but && m.exists() && m.used <= api.PackSize-size {
			return n, true
		}
	}
	return 0, false
}

// missing returns the least number that no pack has, and false if each has one.
func (l *table) missing() (int, bool) {
	for n, m := range l {
		if !m.exists() {
			return n, true
		}
	}
	return 0, false
}

// load returns the entry of pack n, which must exist.
func load(t *txn.Tx, n int) (entry, api.Errno) {
	if n < 0 || n >= api.MaxPacks {
		return entry{}, api.ErrArg
	}
	b, e := read(t, tableAt, entrySize*n, entrySize)
	if e != api.OK {
		return entry{}, e
	}
	m := parse(b)
	if !m.exists() {
		return entry{}, api.ErrArg
	}
	return m, api.OK
}

// loadAround returns the entry of the pack within whose bytes in use the place p must be.
func loadAround(t *txn.Tx, p api.Place) (entry, api.Errno) {
	m, e := load(t, p.Pack)
	if e != api.OK {
		return entry{}, e
	}
	// Not p.At+p.Len > m.used: that sum may be more than an int holds.
	if p.At < 0 || p.Len < frame.Size(0) || p.At > m.used-p.Len {
		return entry{}, api.ErrArg
	}
	return m, api.OK
}

// parse goes by the start alone where there is no pack, whatever stands behind it.
func parse(b []byte) entry {
	m := entry{fieldAt(b, 0), fieldAt(b, 1), fieldAt(b, 2)}
	if !m.exists() {
		return entry{}
	}
	return m
}

// fieldAt is for the fields of an entry, of which At tells no error.
func fieldAt(b []byte, k int) int {
	v, _ := octet.At(b, fieldSize*k, fieldSize)
	return int(v)
}

func (m entry) exists() bool {
	return m.start != 0
}

// store makes m the entry of pack n.
func (m entry) store(t *txn.Tx, n int) api.Errno {
	var b []byte
	for _, v := range [...]int{m.start, m.used, m.live, 0} {
		longer, e := octet.Put(b, uint64(v), fieldSize)
		// In a table that is not valid a number may be so great that it has no room once it has grown.
		if e != api.OK {
			return e
		}
		b = longer
	}
	return write(t, tableAt, entrySize*n, b)
}

// append stores f behind the bytes in use of pack n, whose entry is m. If there is no such pack, it is made. What fails
// may have been done in part.
func (m entry) append(t *txn.Tx, n int, f []byte) api.Errno {
	if !m.exists() {
		start, e := space.Take(t, api.PackLong)
		if e != api.OK {
			return e
		}
		m.start = start
	}
	if e := write(t, m.start, m.used, f); e != api.OK {
		return e
	}
	m.used += len(f)
	m.live += len(f)
	return m.store(t, n)
}

// release deletes pack n, whose entry is m. What fails may have been done in part.
func (m entry) release(t *txn.Tx, n int) api.Errno {
	if e := space.Free(t, m.start, api.PackLong); e != api.OK {
		return e
	}
	return entry{}.store(t, n)
}
