package keep_test

import (
	"bytes"
	"slices"
	"testing"

	"coffer/api"
	"coffer/keep"
)

// withRoom is b with foreign bytes in front of it and in its unused capacity; whole is all of that.
func withRoom(b []byte) (whole, given []byte) {
	whole = bytes.Repeat([]byte{165}, len(b)+200)
	copy(whole[100:], b)
	return whole, whole[100 : 100+len(b)]
}

// scribble writes over all that b has, its unused capacity among it.
func scribble(b []byte) {
	b = b[:cap(b)]
	for i := range b {
		b[i] ^= 255
	}
}

// The data that is handed in is not changed, and may be written over as soon as the call is back.
func TestDataIsWrittenOver(t *testing.T) {
	t.Parallel()
	w := newStore(t, 200)
	for k, n := range []int{0, 1, 100, 466, 467, 978, 3000, longest, longest + 1, 1000, 5000} {
		whole, given := withRoom(dataOf(k, n))
		before := bytes.Clone(whole)
		if n > longest {
			wantError(t, "P0.3", w.x, set(keyOf(k%5), given), api.ErrLong)
		} else {
			w.set(keyOf(k%5), given)
		}
		if !bytes.Equal(whole, before) {
			t.Errorf("P0.3: Set of %d bytes changes them", n)
		}
		scribble(whole)
		w.checkAll("P0.3: written over")
		w.commit()
		w.checkAll("P0.3: written over, and committed")
	}
}

// What Get returns may be written over and appended to: neither the record nor what another Get returned changes.
func TestGetIsWrittenOver(t *testing.T) {
	t.Parallel()
	for _, commits := range []bool{false, true} {
		w := newStore(t, 200)
		for k, n := range []int{46, 47, 300, 512, 558, 3000, 4246, 600, 600} {
			w.set(keyOf(k), dataOf(k, n-head))
			if commits {
				w.commit()
			}
		}
		before := w.sight()
		for key, want := range w.had.data {
			one, e := keep.Get(w.x, key)
			other, f := keep.Get(w.x, key)
			if e != api.OK || f != api.OK {
				t.Fatalf("P12.1: Get: errors %d, %d", e, f)
			}
			_ = append(one, dataOf(1, 600)...)
			scribble(one)
			if !bytes.Equal(other, want) {
				t.Errorf("P0.3: two calls of Get share memory")
			}
			w.wantSight("P0.3: written over", before)
			w.wantRecords("P0.3: written over")
		}
	}
}

// Each record that Scan returns may be written over and appended to, and so may their row: neither the store, nor another
// record, nor what another Scan returned changes.
func TestScanIsWrittenOver(t *testing.T) {
	t.Parallel()
	w := newStore(t, 200)
	w.grow(46, 47, 300, 512, 558, 3000, 4246, 600, 600, 100, 101, 102, 103, 104, 105)
	before, want := w.sight(), w.had.records(api.ID{}, 100)
	for at := range want {
		one, other := w.wantScan(api.ID{}, 100), w.wantScan(api.ID{}, 100)
		_ = append(one[at].Data, dataOf(1, 600)...)
		scribble(one[at].Data)
		one[at] = want[at]
		if !sameRecords(one, want) || !sameRecords(other, want) {
			t.Errorf("P0.3: record %d shares memory", at)
		}
		_ = append(one, api.Record{Data: []byte{1}})
		one = one[:cap(one)]
		for i := range one {
			one[i] = api.Record{}
		}
		if !sameRecords(other, want) {
			t.Errorf("P0.3: two calls of Scan share memory")
		}
		w.wantSight("P0.3: written over", before)
		w.wantRecords("P0.3: written over")
	}
}

// What a transaction told of a sector may be written over: that is txn's promise, on which a store relies.
func TestSectorsAreWrittenOver(t *testing.T) {
	w := newStore(t, 100)
	w.grow(300, 4000, 50)
	w.set(keyOf(3), dataOf(3, 900))
	w.drop(keyOf(2))
	for i := range 100 {
		scribble(w.read(i))
	}
	w.checkAll("sectors are written over")
}

// What a call answers does not hang on the capacity of what it is given, nor on calls in between that fail or move nothing.
func TestNothingElseCounts(t *testing.T) {
	t.Parallel()
	v, w := newStore(t, 100), newStore(t, 100)
	for k, n := range []int{0, 100, 1000, 466, 20, 3000, 2000} {
		_, given := withRoom(dataOf(k, n))
		v.set(keyOf(k%5), slices.Clip(dataOf(k, n)))
		for _, c := range []call{get(keyOf(9)), drop(keyOf(9))} {
			w.wantFailure("in between", c, api.ErrNone)
		}
		w.wantFailure("in between", set(keyOf(9), make([]byte, longest+1)), api.ErrLong)
		w.wantFailure("in between", set(keyOf(k%5), make([]byte, longest+1)), api.ErrLong)
		w.wantStill("in between")
		w.set(keyOf(k%5), given)
		w.checkAll(where("%d bytes", n))
	}
	w.wantSight("P0.5: the same calls", v.sight())
}
