package keep_test

import (
	"bytes"
	"testing"

	"coffer/api"
	"coffer/keep"
	"coffer/pack"
)

// lengths are those of data that may be, at the edges of what the document names and beside sectors' edges.
func lengths() []int {
	return []int{0, 1, 2, 255, 256, 257, 465, 466, 467, 511, 512, 513, 978, 2000, 4050, 4096, 4199, longest}
}

// extremes are keys at the ends of the order.
func extremes() []api.ID {
	var last api.ID
	copy(last[:], bytes.Repeat([]byte{255}, 32))
	return []api.ID{{}, last, {31: 1}, {0: 1}, {0: 128}, {31: 255}, {0: 127, 31: 255}}
}

func TestSetOfNewKeys(t *testing.T) {
	w := newStore(t, 300)
	for k, n := range lengths() {
		w.set(keyOf(k), dataOf(k, n))
		w.checkAll(where("a new key with %d bytes", n))
		w.rest()
	}
	for k, key := range extremes() {
		w.set(key, dataOf(k, 40*k))
		w.checkAll(where("the key %x..", key[:2]))
		w.rest()
	}
}

// nil and no bytes are the same.
func TestSetOfNothing(t *testing.T) {
	v, w := newStore(t, 100), newStore(t, 100)
	for k := range 3 {
		v.set(keyOf(k%2), nil)
		w.set(keyOf(k%2), []byte{})
		v.checkAll("nil")
		w.wantSight("P0.4: no bytes", v.sight())
	}
}

// A record is set to longer and shorter data, in the same transaction and in another one.
func TestSetOfAKeyThatIsThere(t *testing.T) {
	t.Parallel()
	for _, commits := range []bool{false, true} {
		for _, from := range lengths() {
			w := newStore(t, 100)
			w.set(keyOf(1), dataOf(1, 300))
			for k, to := range []int{from, 0, 1, from, from, longest, 466, from} {
				w.set(keyOf(2), dataOf(k, to))
				if commits {
					w.commit()
				}
				w.checkAll(where("from %d bytes, step %d: %d bytes", from, k, to))
				w.rest()
			}
		}
	}
}

// The same data again: the frame is another one, behind the elder one.
func TestSetOfTheSameData(t *testing.T) {
	w := newStore(t, 100)
	w.grow(100, 200)
	for range 5 {
		w.set(keyOf(0), dataOf(0, 54))
		w.checkAll("the same data")
	}
	if p, want := w.had.places[keyOf(0)], (api.Place{Pack: 0, At: 700, Len: 100}); p != want {
		t.Errorf("the test is wrong: the place is %v", p)
	}
}

// The elder frame is dropped ahead of the new one: with the last live frame its pack goes, and the new frame is the first one
// of another pack, in the sectors that were just released.
func TestSetDropsFirst(t *testing.T) {
	// Four sectors of the space, a pack, and a node of the tree: nothing else has room.
	w := newStore(t, 4+long+1)
	for k, n := range []int{longest, longest, 4000, longest, 1, longest} {
		w.set(keyOf(1), dataOf(k, n))
		w.checkAll(where("one pack, %d bytes", n))
		w.commit()
		w.checkAll(where("one pack, %d bytes, committed", n))
	}
	if used, live, e := pack.Stat(w.x, 0); used != 4247+4246 && used != 4246 || live != 4246 || e != api.OK {
		t.Errorf("P12.1: Stat: %d, %d, error %d", used, live, e)
	}
}

// On a full disk a record may be set as long as it is the only one of its pack, but not if another one keeps the pack. Then
// it stays what it was.
func TestSetOnAFullDisk(t *testing.T) {
	w := newStore(t, 4+2*long+1)
	w.grow(4246, 3900, 4246)
	w.set(keyOf(2), dataOf(7, longest))
	w.checkAll("alone in its pack")
	w.wantFailure("beside another one", set(keyOf(0), dataOf(8, longest)), api.ErrFull)
	w.wantFailure("beside another one", set(keyOf(1), dataOf(8, longest)), api.ErrFull)
	w.wantFailure("a new one", set(keyOf(3), dataOf(8, longest)), api.ErrFull)
	w.checkAll("no room")
	w.set(keyOf(0), dataOf(9, room-4246-head))
	w.checkAll("room for just so many bytes")
	w.wantFailure("no room for one byte", set(keyOf(2), dataOf(8, 1)), api.ErrFull)
	w.set(keyOf(2), nil)
	w.checkAll("room for no byte")
}

// All 64 packs are full.
func TestSetWithAllPacks(t *testing.T) {
	t.Parallel()
	w := full(t)
	w.checkAll("all packs")
	w.wantFailure("all packs", set(keyOf(500), nil), api.ErrFull)
	w.wantFailure("all packs", set(keyOf(77), nil), api.ErrFull)
	if b, e := keep.Get(w.x, keyOf(77)); !bytes.Equal(b, dataOf(77, 4096-head)) || e != api.OK {
		t.Errorf("P0.2: a record that could not be set has %d bytes, error %d", len(b), e)
	}
	w.drop(keyOf(76))
	w.wantFailure("all packs", set(keyOf(500), nil), api.ErrFull)
	w.set(keyOf(77), dataOf(1, longest))
	w.checkAll("a pack made anew")
	w.set(keyOf(500), nil)
	w.checkAll("room in one pack")
}

// The tree has no sector for another leaf: nothing of the record is left in a pack.
func TestSetWithoutRoomInTheTree(t *testing.T) {
	w := newStore(t, 4+long+1)
	for k := range 10 {
		w.set(keyOf(k), dataOf(k, 10*k))
	}
	w.commit()
	w.wantFailure("the eleventh key", set(keyOf(10), dataOf(10, 10)), api.ErrFull)
	w.checkAll("no room in the tree")
	w.set(keyOf(9), dataOf(11, 500))
	w.drop(keyOf(3))
	w.set(keyOf(10), dataOf(10, 10))
	w.checkAll("room in the leaf")
}

func TestSetOfTooMuch(t *testing.T) {
	w := newStore(t, 100)
	w.grow(4246, 100, 100)
	for _, n := range []int{longest + 1, longest + 2, 5000, 8146, 8192, 70000} {
		for _, key := range []api.ID{keyOf(0), keyOf(2), keyOf(9), {}} {
			w.wantFailure(where("%d bytes", n), set(key, dataOf(1, n)), api.ErrLong)
		}
	}
	w.checkAll("too much")
	// Nothing of it is seen where the transaction wrote already.
	w.set(keyOf(0), dataOf(9, longest))
	w.wantFailure("too much", set(keyOf(0), dataOf(1, longest+1)), api.ErrLong)
	w.wantFailure("too much", set(keyOf(3), dataOf(1, longest+1)), api.ErrLong)
	w.checkAll("too much")
	w.commit()
	w.checkAll("too much, committed")
}

// A key that is there needs neither another sector for the tree nor another key.
func TestLenStays(t *testing.T) {
	w := newStore(t, 200)
	for k := range 60 {
		w.set(keyOf(k), nil)
		w.rest()
	}
	left := w.left()
	for k := range 60 {
		w.set(keyOf(k), []byte{byte(k)})
		if n, e := keep.Len(w.x); n != 60 || e != api.OK {
			t.Fatalf("P12.1: Len: %d, error %d", n, e)
		}
		w.rest()
	}
	w.checkAll("set again")
	if n := w.left(); n != left {
		t.Errorf("%d sectors are free, not %d", n, left)
	}
}
