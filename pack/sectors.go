package pack

import (
	"iter"

	"coffer/api"
	"coffer/txn"
)

// piece is the bytes of a home sector from from on, up to to.
type piece struct{ sector, from, to int }

// pieces enumerates, sector by sector, the n bytes from offset at on of the home sectors from start on.
func pieces(start, at, n int) iter.Seq[piece] {
	return func(yield func(piece) bool) {
		for done := 0; done < n; {
			from := (at + done) % api.Sector
			to := min(from+n-done, api.Sector)
			if !yield(piece{start + (at+done)/api.Sector, from, to}) {
				return
			}
			done += to - from
		}
	}
}

// read returns the n bytes from offset at on of the home sectors from start on.
func read(t *txn.Tx, start, at, n int) ([]byte, api.Errno) {
	// No room for n bytes is made ahead: a table that is not valid may tell of more bytes than the disk has.
	var out []byte
	for p := range pieces(start, at, n) {
		b, e := t.Read(p.sector)
		if e != api.OK {
			return nil, e
		}
		out = append(out, b[p.from:p.to]...)
	}
	return out, api.OK
}

// write stores b from offset at on of the home sectors from start on. What fails may have been done in part.
func write(t *txn.Tx, start, at int, b []byte) api.Errno {
	for p := range pieces(start, at, len(b)) {
		s, e := t.Read(p.sector)
		if e != api.OK {
			return e
		}
		b = b[copy(s[p.from:p.to], b):]
		if e := t.Write(p.sector, s); e != api.OK {
			return e
		}
	}
	return api.OK
}
