package keep_test

import (
	"slices"
	"testing"

	"coffer/api"
	"coffer/keep"
)

func TestDrop(t *testing.T) {
	w := newStore(t, 150)
	w.grow(100, 4246, 46, 4246, 47, 4246, 3000, 500, 600, 700, 800, 900)
	for _, k := range []int{5, 0, 11, 3, 7, 1} {
		w.drop(keyOf(k))
		w.checkAll(where("%d is dropped", k))
		w.wantFailure("dropped", get(keyOf(k)), api.ErrNone)
		w.wantFailure("dropped", drop(keyOf(k)), api.ErrNone)
		w.rest()
	}
	w.set(keyOf(5), dataOf(1, 60))
	w.checkAll("set anew")
	w.drop(keyOf(5))
	w.checkAll("dropped anew")
}

func TestDropOfNothing(t *testing.T) {
	w := newStore(t, 100)
	for _, key := range slices.Concat(extremes(), []api.ID{keyOf(0), keyOf(1)}) {
		w.wantFailure("an empty store", drop(key), api.ErrNone)
	}
	w.grow(100, 200, 300)
	for _, key := range slices.Concat(extremes()[1:], []api.ID{keyOf(3), keyOf(256)}) {
		w.wantFailure("no such key", drop(key), api.ErrNone)
	}
	for k := range 3 {
		key := keyOf(k)
		key[31] += 5
		w.wantFailure("a key beside one", drop(key), api.ErrNone)
	}
	w.checkAll("no such key")
}

// Behind the last record all sectors are free, and the root is 0.
func TestDropOfAll(t *testing.T) {
	t.Parallel()
	for _, n := range []int{1, 2, 10, 11, 12, 40, 200} {
		w := newStore(t, 600)
		for k := range n {
			w.set(keyOf(k), dataOf(k, k*331%1500))
			w.rest()
		}
		for k := range n {
			if left := w.left(); left >= w.homes-4 {
				t.Errorf("%d sectors are free beside records", left)
			}
			w.drop(keyOf(k * 7 % n % 1000))
			w.rest()
			if n%7 == 0 {
				t.Fatal("the test is wrong: not all keys are dropped")
			}
		}
		w.checkAll("all are dropped")
		if left, root := w.left(), w.root(); left != w.homes-4 || root != 0 {
			t.Errorf("P12.1: all of %d are dropped: %d sectors are free, the root is %d", n, left, root)
		}
		w.commit()
		w.power(nil)
		w.checkAll("all are dropped, and a new opening")
		wantError(t, "all are dropped", w.x, drop(keyOf(0)), api.ErrNone)
	}
}

// A record goes with its frame alone: the one of the same key that was there before, and those beside it, count no more and
// no less.
func TestDropOfWhatWasSetTwice(t *testing.T) {
	w := newStore(t, 100)
	w.grow(100, 200)
	for k := range 4 {
		w.set(keyOf(0), dataOf(k, 54+k))
	}
	w.drop(keyOf(0))
	w.checkAll("set five times, dropped once")
	w.wantFailure("dropped", get(keyOf(0)), api.ErrNone)
	if n, e := keep.Len(w.x); n != 1 || e != api.OK {
		t.Errorf("P12.1: Len: %d, error %d", n, e)
	}
	w.drop(keyOf(1))
	w.checkAll("all are dropped")
	if left := w.left(); left != w.homes-4 {
		t.Errorf("P12.1: %d sectors are free, not %d", left, w.homes-4)
	}
}
