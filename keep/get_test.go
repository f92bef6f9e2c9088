package keep_test

import (
	"bytes"
	"slices"
	"testing"

	"coffer/api"
	"coffer/keep"
)

func TestGet(t *testing.T) {
	t.Parallel()
	w := many(t)
	w.wantRecords("many")
	for key := range w.had.data {
		for _, other := range []api.ID{ahead(key), after(key)} {
			if _, ok := w.had.data[other]; !ok {
				wantError(t, "a key beside one", w.x, get(other), api.ErrNone)
			}
		}
	}
	for k := range 110 {
		if k%7 == 0 {
			wantError(t, "a key that was dropped", w.x, get(keyOf(k)), api.ErrNone)
		}
	}
}

func TestGetOfNothing(t *testing.T) {
	w := newStore(t, 100)
	for _, key := range slices.Concat(extremes(), []api.ID{keyOf(0)}) {
		w.wantFailure("an empty store", get(key), api.ErrNone)
	}
}

// broken are ways in which the place that the tree has of a record, or its pack, is not what was kept, and what pack.Get
// returns then. The record has the key of 1, and 4,000 bytes in pack 0 from 300 on; pack 0 has another one of 200 bytes
// behind it; and there is a pack 1.
func broken() []struct {
	name string
	do   func(w *store)
	want api.Errno
} {
	at := func(pack, at, n int) func(w *store) {
		return func(w *store) { w.point(keyOf(1), plainVal(api.Place{Pack: pack, At: at, Len: n})) }
	}
	turn := func(at int, by byte) func(w *store) {
		return func(w *store) { w.turn(0, at, by) }
	}
	return []struct {
		name string
		do   func(w *store)
		want api.Errno
	}{
		{"a pack that there is not", at(2, 300, 4000), api.ErrArg},
		{"the last pack, which there is not", at(63, 300, 4000), api.ErrArg},
		{"a number that no pack has", at(64, 300, 4000), api.ErrArg},
		{"the greatest number", at(1<<32-1, 300, 4000), api.ErrArg},
		{"the greatest offset", at(0, 1<<32-1, 4000), api.ErrArg},
		{"the greatest length", at(0, 300, 1<<32-1), api.ErrArg},
		{"half of the greatest length", at(0, 300, 1<<31), api.ErrArg},
		{"a first bit", at(0, 300+1<<31, 4000), api.ErrArg},
		{"a first byte", at(0, 300+1<<24, 4000), api.ErrArg},
		{"a second byte", at(0, 300+1<<16, 4000), api.ErrArg},
		{"a first byte of the length", at(0, 300, 4000+1<<24), api.ErrArg},
		{"a second byte of the length", at(0, 300, 4000+1<<16), api.ErrArg},
		{"a first byte of the pack", at(1<<24, 300, 4000), api.ErrArg},
		{"a second byte of the pack", at(1<<16, 300, 4000), api.ErrArg},
		{"a third byte of the pack", at(1<<8, 300, 4000), api.ErrArg},
		{"over the end", at(0, 501, 4000), api.ErrArg},
		{"no frame is so short", at(0, 300, 45), api.ErrArg},
		{"no bytes", at(0, 300, 0), api.ErrArg},
		{"in another pack", at(1, 300, 4000), api.ErrArg},
		{"no frame begins there", at(0, 299, 4000), api.ErrSyntax},
		{"a byte too short", at(0, 300, 3999), api.ErrShort},
		{"a byte too long", at(0, 300, 4001), api.ErrRot},
		{"another record", at(0, 0, 300), api.ErrRot},
		{"another record in another pack", at(1, 0, 4246), api.ErrRot},
		{"another first byte", turn(300, 1), api.ErrSyntax},
		{"another second byte", turn(301, 128), api.ErrSyntax},
		{"a great length", turn(303, 16), api.ErrLong},
		{"a length that is more by one", turn(305, 1), api.ErrShort},
		{"another hash", turn(306, 1), api.ErrRot},
		{"another key", turn(300+14+31, 4), api.ErrRot},
		{"other data", turn(346, 128), api.ErrRot},
		{"another last byte", turn(4299, 1), api.ErrRot},
		{"no such bytes in use", func(w *store) { w.setEntry(0, 4, 4299, 4299) }, api.ErrArg},
		{"no such pack", func(w *store) { w.setEntry(0, 0) }, api.ErrArg},
	}
}

func newBroken(t *testing.T, do func(w *store)) *store {
	t.Helper()
	w := newStore(t, 100)
	w.grow(300, 4000, 200, 4246)
	do(w)
	w.commit()
	return w
}

// Get returns the error of pack.Get, of that record alone; and so does Scan as soon as it comes to the record.
func TestGetOfWhatIsBroken(t *testing.T) {
	for _, c := range broken() {
		w := newBroken(t, c.do)
		w.wantFailure(c.name, get(keyOf(1)), c.want)
		w.wantFailure(c.name, get(keyOf(100)), api.ErrNone)
		for _, k := range []int{0, 2, 3} {
			if k == 3 || c.name != "no such bytes in use" && c.name != "no such pack" {
				if b, e := keep.Get(w.x, keyOf(k)); e != api.OK || !bytes.Equal(b, w.had.data[keyOf(k)]) {
					t.Errorf("%s: P12.1: Get of another record: error %d", c.name, e)
				}
			}
		}
	}
}

func TestScanOfWhatIsBroken(t *testing.T) {
	for _, c := range broken() {
		if c.name == "no such pack" {
			continue // there the record of 0, which is ahead, is broken, too
		}
		w := newBroken(t, c.do)
		keys := w.had.keys()
		at := slices.Index(keys, keyOf(1))
		if at < 1 || at == len(keys)-1 {
			t.Fatal("the test is wrong: the broken record is at an end")
		}
		for n := range len(keys) + 2 {
			for k, from := range append(slices.Clone(keys), after(keys[len(keys)-1])) {
				if k <= at && k+n > at {
					w.wantFailure(c.name, scan(from, n), c.want)
				} else if c.name != "no such bytes in use" {
					w.wantScan(from, n)
				}
			}
		}
		if n, e := keep.Len(w.x); n != 4 || e != api.OK {
			t.Errorf("%s: P12.1: Len: %d, error %d", c.name, n, e)
		}
	}
}

// Of several broken records Scan returns the error of the first one that it comes to.
func TestScanOfTwoThatAreBroken(t *testing.T) {
	w := newStore(t, 100)
	w.grow(100, 200, 300, 400, 500)
	keys := w.had.keys()
	w.point(keys[1], plainVal(api.Place{Pack: 9, At: 0, Len: 100}))
	w.point(keys[3], plainVal(w.had.places[keys[0]]))
	for from, want := range []api.Errno{api.ErrArg, api.ErrArg, api.ErrRot, api.ErrRot} {
		w.wantFailure("two are broken", scan(keys[from], 10), want)
	}
	w.wantScan(keys[4], 10)
	w.wantScan(keys[2], 1)
}

// Set and Drop of a record whose place is none return the error of pack.Drop, and nothing comes of it.
func TestChangesOfWhatIsBroken(t *testing.T) {
	for _, c := range broken() {
		if c.want != api.ErrArg {
			continue
		}
		w := newBroken(t, c.do)
		for _, data := range [][]byte{nil, dataOf(1, 10), dataOf(1, longest)} {
			w.wantFailure(c.name, set(keyOf(1), data), api.ErrArg)
		}
		w.wantFailure(c.name, drop(keyOf(1)), api.ErrArg)
		if e := keep.Drop(w.x, keyOf(3)); e != api.OK {
			t.Errorf("%s: P12.1: Drop of another record: error %d", c.name, e)
		}
		w.wantFailure(c.name+", and another one is dropped", drop(keyOf(1)), api.ErrArg)
	}
}

// A place with more bytes than are live in its pack: pack.Drop's ErrArg, though Get has the data.
func TestDropOfMoreThanIsLive(t *testing.T) {
	w := newStore(t, 100)
	w.grow(300, 4000, 200)
	w.setEntry(0, w.starts()[0], 4500, 3999)
	w.commit()
	w.wantFailure("less is live", drop(keyOf(1)), api.ErrArg)
	w.wantFailure("less is live", set(keyOf(1), nil), api.ErrArg)
	w.wantRecords("less is live")
	w.setEntry(0, w.starts()[0], 4500, 4001)
	if e := keep.Drop(w.x, keyOf(1)); e != api.OK {
		t.Errorf("P12.1: Drop: error %d", e)
	}
	w.wantFailure("one byte is live", drop(keyOf(0)), api.ErrArg)
}
