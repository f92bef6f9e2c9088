package pack_test

import (
	"bytes"
	"fmt"
	"testing"

	"coffer/api"
	"coffer/pack"
	"coffer/txn"
)

// answer is what a call answers: in words, whether that is zero, and the error.
type answer struct {
	words string
	zero  bool
	e     api.Errno
}

// call is a call of one of the package's functions.
type call struct {
	name string
	do   func(x *txn.Tx) answer
}

func add(key api.ID, data []byte) call {
	return call{fmt.Sprintf("P11.1: Add of %d bytes", len(data)), func(x *txn.Tx) answer {
		p, e := pack.Add(x, key, data)
		return answer{fmt.Sprint(p), p == api.Place{}, e}
	}}
}

func addBut(key api.ID, data []byte, but int) call {
	return call{fmt.Sprintf("P11.1: AddBut %d of %d bytes", but, len(data)), func(x *txn.Tx) answer {
		p, e := pack.AddBut(x, key, data, but)
		return answer{fmt.Sprint(p), p == api.Place{}, e}
	}}
}

func get(p api.Place, key api.ID) call {
	return call{fmt.Sprintf("P11.2: Get(%v)", p), func(x *txn.Tx) answer {
		b, e := pack.Get(x, p, key)
		return answer{fmt.Sprint(b), len(b) == 0, e}
	}}
}

func drop(p api.Place) call {
	return call{fmt.Sprintf("P11.2: Drop(%v)", p), func(x *txn.Tx) answer {
		return answer{"", true, pack.Drop(x, p)}
	}}
}

func list(n int) call {
	return call{fmt.Sprintf("P11.3: List(%d)", n), func(x *txn.Tx) answer {
		l, e := pack.List(x, n)
		return answer{fmt.Sprint(l), len(l) == 0, e}
	}}
}

func stat(n int) call {
	return call{fmt.Sprintf("P11.3: Stat(%d)", n), func(x *txn.Tx) answer {
		used, live, e := pack.Stat(x, n)
		return answer{fmt.Sprint(used, live), used == 0 && live == 0, e}
	}}
}

// all are calls of all functions, good ones if there is such a place.
func all(p api.Place, key api.ID) []call {
	return []call{
		add(key, dataOf(1, 100)), add(key, nil), add(key, dataOf(2, longest)),
		addBut(key, dataOf(1, 100), p.Pack+1), addBut(key, nil, p.Pack), addBut(key, dataOf(2, longest), -1),
		get(p, key), drop(p), list(p.Pack), stat(p.Pack),
	}
}

// wantError makes a call that must fail.
func wantError(t *testing.T, where string, x *txn.Tx, c call, e api.Errno) {
	t.Helper()
	if got := c.do(x); got.e != e || !got.zero {
		t.Errorf("%s: %s: error %d, not %d, and %s", where, c.name, got.e, e, got.words)
	}
}

// wantFailure makes a call that must fail, and holds it against P0.2: nothing else comes of it.
func (w *shed) wantFailure(where string, c call, e api.Errno) {
	w.t.Helper()
	before := w.sight()
	wantError(w.t, where, w.x, c, e)
	w.wantSight(where+": "+c.name+", which fails: P0.2", before)
}

// sight is all that a transaction tells.
type sight struct {
	sectors [][]byte
	touched int
}

func (w *shed) sight() sight {
	w.t.Helper()
	s := sight{touched: w.x.Touched()}
	for i := range w.had.homes {
		s.sectors = append(s.sectors, w.read(i))
	}
	return s
}

func (w *shed) wantSight(where string, s sight) {
	w.t.Helper()
	if w.x.Touched() != s.touched {
		w.t.Errorf("%s: %d sectors are written, not %d", where, w.x.Touched(), s.touched)
	}
	for i, b := range w.sight().sectors {
		if !bytes.Equal(b, s.sectors[i]) {
			w.t.Errorf("%s: home sector %d is % x.., not % x..", where, i, b[:72], s.sectors[i][:72])
		}
	}
}
