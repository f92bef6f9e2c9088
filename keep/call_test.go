package keep_test

import (
	"bytes"
	"fmt"
	"math"
	"testing"

	"coffer/api"
	"coffer/keep"
	"coffer/txn"
)

// answer is what a call answers: in words, whether that is zero, and the error.
type answer struct {
	words string
	zero  bool
	e     api.Errno
}

// call is a call of one of the package's functions.
type call struct {
	name string
	do   func(x *txn.Tx) answer
}

func format() call {
	return call{"P12.1: Format", func(x *txn.Tx) answer { return answer{"", true, keep.Format(x)} }}
}

func set(key api.ID, data []byte) call {
	return call{fmt.Sprintf("P12.1: Set of %x.. to %d bytes", key[:2], len(data)), func(x *txn.Tx) answer {
		return answer{"", true, keep.Set(x, key, data)}
	}}
}

func get(key api.ID) call {
	return call{fmt.Sprintf("P12.1: Get of %x..", key[:2]), func(x *txn.Tx) answer {
		b, e := keep.Get(x, key)
		return answer{fmt.Sprint(b), len(b) == 0, e}
	}}
}

func drop(key api.ID) call {
	return call{fmt.Sprintf("P12.1: Drop of %x..", key[:2]), func(x *txn.Tx) answer {
		return answer{"", true, keep.Drop(x, key)}
	}}
}

func scan(from api.ID, most int) call {
	return call{fmt.Sprintf("P12.1: Scan from %x.., %d at most", from[:2], most), func(x *txn.Tx) answer {
		l, e := keep.Scan(x, from, most)
		return answer{fmt.Sprint(l), len(l) == 0, e}
	}}
}

func length() call {
	return call{"P12.1: Len", func(x *txn.Tx) answer {
		n, e := keep.Len(x)
		return answer{fmt.Sprint(n), n == 0, e}
	}}
}

func compact() call {
	return call{"P12.2: Compact", func(x *txn.Tx) answer {
		ok, e := keep.Compact(x)
		return answer{fmt.Sprint(ok), !ok, e}
	}}
}

// all are calls of all functions, with a key that has a record or has none.
func all(key api.ID) []call {
	return []call{
		format(), set(key, nil), set(key, dataOf(1, 1)), set(key, dataOf(2, 700)), set(key, dataOf(3, longest)), get(key), drop(key),
		scan(key, 1), scan(api.ID{}, math.MaxInt), length(), compact(),
	}
}

// wantError makes a call that must fail.
func wantError(t *testing.T, where string, x *txn.Tx, c call, e api.Errno) {
	t.Helper()
	if got := c.do(x); got.e != e || !got.zero {
		t.Errorf("%s: %s: error %d, not %d, and %s", where, c.name, got.e, e, got.words)
	}
}

// wantFailure makes a call that must fail, and holds it against P0.2: nothing else comes of it.
func (w *store) wantFailure(where string, c call, e api.Errno) {
	w.t.Helper()
	before := w.sight()
	wantError(w.t, where, w.x, c, e)
	w.wantSight(where+": "+c.name+", which fails: P0.2", before)
}

// sight is all that a transaction tells.
type sight struct {
	sectors [][]byte
	touched int
}

func (w *store) sight() sight {
	w.t.Helper()
	s := sight{touched: w.x.Touched()}
	for i := range w.homes {
		s.sectors = append(s.sectors, w.read(i))
	}
	return s
}

func (w *store) wantSight(where string, s sight) {
	w.t.Helper()
	if w.x.Touched() != s.touched {
		w.t.Errorf("%s: %d sectors are written, not %d", where, w.x.Touched(), s.touched)
	}
	w.wantSectors(where, s)
}

// wantSectors holds the sectors alone: a call that moves nothing may have written what was there.
func (w *store) wantSectors(where string, s sight) {
	w.t.Helper()
	for i, b := range w.sight().sectors {
		if !bytes.Equal(b, s.sectors[i]) {
			w.t.Errorf("%s: home sector %d is % x.., not % x..", where, i, b[:72], s.sectors[i][:72])
		}
	}
}

// wantStill makes a Compact that moves nothing.
func (w *store) wantStill(where string) {
	w.t.Helper()
	before := w.sight()
	if ok, e := keep.Compact(w.x); ok || e != api.OK {
		w.t.Fatalf("P12.2: %s: Compact: %v, error %d", where, ok, e)
	}
	w.wantSight(where+": Compact moves nothing, and", before)
	w.checkAll(where)
}
