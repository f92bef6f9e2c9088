package keep_test

import (
	"encoding/binary"
	"slices"
	"testing"

	"coffer/api"
	"coffer/space"
	"coffer/tree"
)

// wantVal holds the 16 bytes that the tree of root 0 has of a key.
func (w *store) wantVal(key api.ID, want api.Val) {
	w.t.Helper()
	if v, e := tree.Get(w.x, w.root(), key); v != want || e != api.OK {
		w.t.Errorf("Definitions: the tree has % x of %x.., error %d, not % x", v, key[:2], e, want)
	}
}

// The bytes of places, written out: the pack, where the frame begins, how long it is, and four zeros.
func TestPlaces(t *testing.T) {
	w := newStore(t, 150)
	w.grow(47, 300, 4246, 4246, 46, 4246)
	for k, want := range []api.Val{
		{11: 47},
		{7: 47, 10: 1, 11: 44},
		{6: 1, 7: 91, 10: 16, 11: 150},
		{3: 1, 10: 16, 11: 150},
		{6: 17, 7: 241, 11: 46},
		{3: 2, 10: 16, 11: 150},
	} {
		w.wantVal(keyOf(k), want)
	}
	w.checkAll("places")
}

// A place at the last byte of the last pack.
func TestTheLastPlace(t *testing.T) {
	t.Parallel()
	w := full(t)
	w.wantVal(keyOf(127), api.Val{3: 63, 6: 16, 10: 16})
	w.drop(keyOf(127))
	w.drop(keyOf(126))
	w.set(keyOf(200), dataOf(1, longest))
	w.set(keyOf(201), dataOf(1, 3854))
	w.set(keyOf(202), nil)
	w.wantVal(keyOf(202), api.Val{3: 63, 6: 31, 7: 210, 11: 46})
	w.checkAll("the last place")
}

// Behind each Set and Drop root 0 is the root of the tree, whatever sector that is; the other roots stay.
func TestRoot(t *testing.T) {
	t.Parallel()
	w := newStore(t, 400)
	seen := map[uint32]int{}
	for k := range 250 {
		w.set(keyOf(k), dataOf(k, k%5))
		w.check(where("root 0 behind %d sets", k+1))
		seen[w.root()]++
		w.rest()
	}
	for k := range 250 {
		w.drop(keyOf(k * 101 % 250))
		w.check(where("root 0 behind %d drops", k+1))
		seen[w.root()]++
		w.rest()
	}
	if w.root() != 0 || len(seen) < 3 {
		t.Errorf("P9.1: the root was each of %v, and is %d", seen, w.root())
	}
}

// Whatever stands in the tree of root 0, put there by tree.Put, is where Get and Drop look.
func TestPlacesThatWereSwapped(t *testing.T) {
	w := newStore(t, 100)
	w.grow(100, 4000, 200, 4246)
	one, two := w.had.places[keyOf(0)], w.had.places[keyOf(2)]
	w.point(keyOf(0), plainVal(two))
	w.wantFailure("another record's place", get(keyOf(0)), api.ErrRot)
	w.point(keyOf(0), plainVal(one))
	w.checkAll("the place is back")
	if e := space.SetRoot(w.x, 0, 0); e != api.OK {
		t.Fatalf("space.SetRoot: error %d", e)
	}
	for k := range 4 {
		w.wantFailure("another root", get(keyOf(k)), api.ErrNone)
		w.wantFailure("another root", drop(keyOf(k)), api.ErrNone)
	}
}

// A tree that was made beside the store is the store's as soon as it is root 0.
func TestAnotherTree(t *testing.T) {
	w := newStore(t, 100)
	w.grow(100, 200, 300)
	root, keys := uint32(0), w.had.keys()
	for _, key := range keys[1:] {
		r, e := tree.Put(w.x, root, key, plainVal(w.had.places[key]))
		if e != api.OK {
			t.Fatalf("tree.Put: error %d", e)
		}
		root = r
	}
	if e := space.SetRoot(w.x, 0, root); e != api.OK {
		t.Fatalf("space.SetRoot: error %d", e)
	}
	delete(w.had.data, keys[0])
	w.wantRecords("another tree")
	w.wantFailure("another tree", get(keys[0]), api.ErrNone)
}

// The store's own bytes are those that the chapters tell: a record that stands on the disk byte by byte is read.
func TestAStoreByHand(t *testing.T) {
	w := newStore(t, 60)
	w.write(1, append([]byte{255, 255, 31}, make([]byte, 509)...))
	key, data := keyOf(7), dataOf(7, 600)
	frame := plainFrame(key, data)
	w.write(5, append(make([]byte, 100), frame[:412]...))
	w.write(6, append(slices.Clone(frame[412:]), make([]byte, 512-len(frame)+412)...))
	w.setEntry(33, 5, 100+len(frame), len(frame), 0)
	leaf := make([]byte, 512)
	leaf[0], leaf[1] = 1, 1
	copy(leaf[8:], key[:])
	binary.BigEndian.PutUint32(leaf[40:], 33)
	binary.BigEndian.PutUint32(leaf[44:], 100)
	binary.BigEndian.PutUint32(leaf[48:], 646)
	w.write(4, leaf)
	if e := space.SetRoot(w.x, 0, 4); e != api.OK {
		t.Fatalf("space.SetRoot: error %d", e)
	}
	w.commit()
	w.had.data[key] = data
	w.wantRecords("a store by hand")
	w.drop(key)
	if n := w.left(); n != 56 {
		t.Errorf("P12.1: %d sectors are free, not 56", n)
	}
}
