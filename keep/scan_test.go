package keep_test

import (
	"math"
	"slices"
	"testing"

	"coffer/api"
	"coffer/keep"
)

func (w *store) wantScan(from api.ID, most int) []api.Record {
	w.t.Helper()
	l, e := keep.Scan(w.x, from, most)
	if want := w.had.records(from, most); e != api.OK || !sameRecords(l, want) {
		w.t.Errorf("P12.1: Scan from %x, %d at most: %d records, error %d, not %d", from, most, len(l), e, len(want))
	}
	return l
}

// after is the least key that is greater, or the key itself if it is the greatest.
func after(key api.ID) api.ID {
	for i := 31; i >= 0; i-- {
		key[i]++
		if key[i] > 0 {
			return key
		}
	}
	return extremes()[1]
}

// ahead is the greatest key that is less, or the key itself if it is the least.
func ahead(key api.ID) api.ID {
	for i := 31; i >= 0; i-- {
		key[i]--
		if key[i] < 255 {
			return key
		}
	}
	return api.ID{}
}

// many is a store of records in several packs, below a tree of three levels, with the keys at the ends of the order.
func many(t *testing.T) *store {
	t.Helper()
	w := newStore(t, 250)
	for k, key := range extremes() {
		w.set(key, dataOf(k, 40*k))
		w.rest()
	}
	for k := range 110 {
		w.set(keyOf(k), dataOf(k, k*k*7%900))
		w.rest()
	}
	for k := range 110 {
		if k%5 == 0 {
			w.set(keyOf(k), dataOf(k+1, k))
		}
		if k%7 == 0 {
			w.drop(keyOf(k))
		}
		w.rest()
	}
	w.commit()
	return w
}

// From each key, between the keys, from the least one and behind the greatest one.
func TestScanFrom(t *testing.T) {
	t.Parallel()
	w := many(t)
	w.checkAll("many")
	for _, key := range w.had.keys() {
		for _, from := range []api.ID{ahead(key), key, after(key)} {
			for _, most := range []int{1, 2, 11, 1000} {
				w.wantScan(from, most)
			}
		}
	}
	w.drop(extremes()[0])
	w.drop(extremes()[1])
	for _, from := range extremes() {
		w.wantScan(from, 1)
		w.wantScan(from, 1000)
	}
	w.wantScan(api.ID{0: 5, 3: 200}, 7)
}

func TestScanAtMost(t *testing.T) {
	t.Parallel()
	w := many(t)
	keys := w.had.keys()
	n := len(keys)
	for _, from := range []api.ID{{}, keys[0], keys[1], keys[n/2], after(keys[n/2]), keys[n-1], after(keys[n-1])} {
		for _, most := range []int{math.MinInt, math.MinInt32, -1, 0, 1, 2, 3, 10, n - 1, n, n + 1, 2 * n, math.MaxInt32, math.MaxInt} {
			w.wantScan(from, most)
		}
	}
}

// Piece by piece, each one from behind the last key of the one before.
func TestScanPieceByPiece(t *testing.T) {
	t.Parallel()
	w := many(t)
	for most := 1; most < 30; most++ {
		var l []api.Record
		for from := (api.ID{}); ; {
			piece := w.wantScan(from, most)
			l = append(l, piece...)
			if len(piece) < most || piece[most-1].Key == extremes()[1] {
				break
			}
			from = after(piece[most-1].Key)
		}
		if want := w.had.records(api.ID{}, 1000); !sameRecords(l, want) {
			t.Errorf("P12.1: Scan %d by %d: %d records, not %d", most, most, len(l), len(want))
		}
	}
}

func TestScanAndLenOfAnEmptyStore(t *testing.T) {
	w := newStore(t, 100)
	for range 2 {
		for _, from := range extremes() {
			w.wantScan(from, 10)
			w.wantScan(from, 0)
		}
		if n, e := keep.Len(w.x); n != 0 || e != api.OK {
			t.Errorf("P12.1: Len of an empty store: %d, error %d", n, e)
		}
		w.grow(100)
		w.losses(0)
	}
}

func TestLen(t *testing.T) {
	w := newStore(t, 200)
	for k := range 130 {
		w.set(keyOf(k), nil)
		w.rest()
		if n, e := keep.Len(w.x); n != k+1 || e != api.OK {
			t.Errorf("P12.1: Len: %d, error %d, not %d", n, e, k+1)
		}
	}
	for k := range 130 {
		w.drop(keyOf(129 - k))
		w.rest()
		if n, e := keep.Len(w.x); n != 129-k || e != api.OK {
			t.Errorf("P12.1: Len: %d, error %d, not %d", n, e, 129-k)
		}
	}
}

// What asks changes nothing, and writes nothing.
func TestAskingChangesNothing(t *testing.T) {
	t.Parallel()
	w := many(t)
	before, writes := w.sight(), w.d.Writes()
	for _, key := range slices.Concat(w.had.keys(), []api.ID{keyOf(1000)}) {
		for _, c := range []call{get(key), scan(key, 3), length()} {
			c.do(w.x)
		}
	}
	w.wantSight("asked", before)
	if w.d.Writes() != writes || w.x.Touched() != 0 {
		t.Errorf("what asks writes")
	}
}
