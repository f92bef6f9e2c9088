package keep_test

import (
	"testing"

	"coffer/api"
	"coffer/keep"
	"coffer/pack"
)

// wantMove makes a Compact that moves the record of a key, and the frames of nothing else, from one place to another.
func (w *store) wantMove(key api.ID, from, to api.Place) {
	w.t.Helper()
	if p := w.had.places[key]; p != from {
		w.t.Fatalf("the test is wrong: the record is at %v, not at %v", p, from)
	}
	if !w.compact() {
		w.t.Fatalf("the test is wrong: nothing is to be moved")
	}
	if p := w.had.places[key]; p != to {
		w.t.Fatalf("the test is wrong: the record goes to %v, not to %v", p, to)
	}
	w.wantVal(key, plainVal(to))
	w.checkAll("Compact moves a record")
}

func TestCompactOfNothingSparse(t *testing.T) {
	w := newStore(t, 150)
	w.wantStill("an empty store")
	w.grow(100)
	w.wantStill("one record")
	w.set(keyOf(1), dataOf(1, longest))
	w.set(keyOf(2), dataOf(2, longest))
	w.wantStill("two packs, all live")
	w.set(keyOf(3), dataOf(3, 3000))
	w.drop(keyOf(3))
	w.wantStill("two packs, more than half live")
}

// A pack of which just half is live is not sparse; one byte less, and it is. The other one has room for all.
func TestCompactAtHalf(t *testing.T) {
	for _, c := range []struct {
		sizes, losses []int
		moves         bool
	}{
		{[]int{4096, 4096, 150}, []int{0}, false},
		{[]int{4096, 4096, 150}, []int{1}, false},
		{[]int{4095, 4096, 150}, []int{0}, false},
		{[]int{4095, 4096, 150}, []int{1}, true},
		{[]int{4096, 4095, 150}, []int{0}, true},
		{[]int{4096, 4095, 150}, []int{1}, false},
		{[]int{4095, 4097, 150}, []int{1}, true},
		{[]int{2000, 2045, 4100, 150}, []int{0, 1}, false},
		{[]int{2000, 2046, 4046, 150}, []int{0, 1}, false},
		{[]int{2001, 2046, 4046, 150}, []int{0, 1}, true},
		{[]int{46, 47, 4242, 3800, 150}, []int{2, 3}, true},
	} {
		w := newStore(t, 100)
		w.grow(c.sizes...)
		w.losses(c.losses...)
		if got := w.had.sparse() == 0; got != c.moves {
			t.Fatalf("the test is wrong: %v, %v", c.sizes, c.losses)
		}
		if !c.moves {
			w.wantStill(where("frames of %v, and not %v", c.sizes, c.losses))
		} else if !w.compact() {
			t.Errorf("the test is wrong: %v, %v", c.sizes, c.losses)
		}
		w.checkAll(where("frames of %v, and not %v", c.sizes, c.losses))
		w.commit()
		w.checkAll("committed")
	}
}

// The frames of a sparse pack go one by one, in their order; with the last one it is gone.
func TestCompactFrameByFrame(t *testing.T) {
	w := newStore(t, 100)
	w.grow(500, 100, 4000, 200, 3000, 46, 4246)
	w.losses(0, 2, 4)
	free := w.left()
	w.wantMove(keyOf(1), api.Place{Pack: 0, At: 500, Len: 100}, api.Place{Pack: 1, At: 4246, Len: 100})
	w.wantMove(keyOf(3), api.Place{Pack: 0, At: 4600, Len: 200}, api.Place{Pack: 1, At: 4346, Len: 200})
	if n := w.left(); n != free {
		t.Errorf("P12.2: %d sectors are free, not %d", n, free)
	}
	w.wantMove(keyOf(5), api.Place{Pack: 0, At: 7800, Len: 46}, api.Place{Pack: 1, At: 4546, Len: 46})
	if _, _, e := pack.Stat(w.x, 0); e != api.ErrArg || w.left() != free+long {
		t.Errorf("P12.2: an empty pack: Stat: error %d, %d sectors are free, not %d", e, w.left(), free+long)
	}
	w.wantStill("one pack")
	w.commit()
	w.power(nil)
	w.checkAll("a new opening")
}

// The first frames of a sparse pack were dropped: by Drop, or because their keys were set anew, in the same pack, behind it
// and in another one.
func TestCompactOfFramesThatStandThereTwice(t *testing.T) {
	w := newStore(t, 150)
	w.set(keyOf(1), dataOf(1, 1000))
	w.set(keyOf(2), dataOf(2, 1000))
	w.set(keyOf(1), dataOf(3, 1000))
	w.set(keyOf(3), dataOf(4, 1500))
	w.set(keyOf(2), dataOf(5, 1000))
	w.set(keyOf(1), dataOf(6, 1000))
	w.set(keyOf(3), dataOf(7, 1500))
	w.checkAll("set again and again")
	if p := w.had.places[keyOf(3)]; p.Pack != 1 || w.had.sparse() != 0 {
		t.Fatalf("the test is wrong: the last frame is at %v", p)
	}
	w.wantMove(keyOf(2), api.Place{Pack: 0, At: 4684, Len: 1046}, api.Place{Pack: 1, At: 1546, Len: 1046})
	w.wantMove(keyOf(1), api.Place{Pack: 0, At: 5730, Len: 1046}, api.Place{Pack: 1, At: 2592, Len: 1046})
	w.wantStill("one pack")
}

// A dropped frame of a key whose record is at the same offset of another pack, and as long as it.
func TestCompactOfTheSameOffsetInAnotherPack(t *testing.T) {
	w := newStore(t, 150)
	w.grow(1000, 4000, 3000)
	w.set(keyOf(0), dataOf(8, 1000-head))
	w.losses(1)
	if p := w.had.places[keyOf(0)]; p != (api.Place{Pack: 1, At: 0, Len: 1000}) {
		t.Fatalf("the test is wrong: the record is at %v", p)
	}
	w.wantMove(keyOf(2), api.Place{Pack: 0, At: 5000, Len: 3000}, api.Place{Pack: 1, At: 1000, Len: 3000})
	w.wantStill("one pack")
}

// The place of a record is that of a frame only if all three numbers are: tree.Put makes each of them another one.
func TestCompactOfPlacesThatAreAlmostThere(t *testing.T) {
	frame := api.Place{Pack: 0, At: 100, Len: 300}
	for _, p := range []api.Place{
		{Pack: 1, At: 100, Len: 300}, {Pack: 2, At: 100, Len: 300}, {Pack: 256, At: 100, Len: 300}, {Pack: 0, At: 0, Len: 300}, {Pack: 0, At: 101, Len: 300},
		{Pack: 0, At: 356, Len: 300}, {Pack: 0, At: 100 + 65536, Len: 300}, {Pack: 0, At: 100, Len: 299}, {Pack: 0, At: 100, Len: 301}, {Pack: 0, At: 100, Len: 300 + 256},
	} {
		w := newStore(t, 100)
		w.grow(100, 300, 4000, 200, 3500, 4246)
		w.losses(0, 2, 4)
		if w.had.places[keyOf(1)] != frame {
			t.Fatalf("the test is wrong: the frame is at %v", w.had.places[keyOf(1)])
		}
		w.point(keyOf(1), plainVal(p))
		w.commit()
		if ok, e := keep.Compact(w.x); !ok || e != api.OK {
			t.Fatalf("P12.2: Compact: %v, error %d", ok, e)
		}
		w.wantVal(keyOf(1), plainVal(p))
		w.wantVal(keyOf(3), plainVal(api.Place{Pack: 1, At: 4246, Len: 200}))
		w.wantVal(keyOf(5), plainVal(api.Place{Pack: 1, At: 0, Len: 4246}))
		if ok, e := keep.Compact(w.x); ok || e != api.OK {
			t.Errorf("P12.2: Compact without a frame that is live: %v, error %d", ok, e)
		}
	}
}

// Of two sparse packs the one of the least number is considered first, whether there is one ahead that is not sparse.
func TestCompactOfTwoSparsePacks(t *testing.T) {
	w := newStore(t, 150)
	w.grow(4000, 4192, 4000, 200, 3992, 4000, 300, 3892, 4246)
	w.losses(0, 2, 4, 5, 7)
	w.wantMove(keyOf(3), api.Place{Pack: 1, At: 4000, Len: 200}, api.Place{Pack: 3, At: 4246, Len: 200})
	w.wantMove(keyOf(6), api.Place{Pack: 2, At: 4000, Len: 300}, api.Place{Pack: 3, At: 4446, Len: 300})
	w.wantStill("the sparse ones are gone")

	w = newStore(t, 150)
	w.grow(4000, 100, 4000, 4000, 120, 4000, 4246)
	w.losses(0, 2, 3, 5)
	w.wantMove(keyOf(1), api.Place{Pack: 0, At: 4000, Len: 100}, api.Place{Pack: 2, At: 4246, Len: 100})
	w.wantMove(keyOf(4), api.Place{Pack: 1, At: 4000, Len: 120}, api.Place{Pack: 2, At: 4346, Len: 120})
	w.wantStill("one pack")
}

// The first live frame of the first sparse pack finds no room, though the next one would, and though one of another sparse
// pack would.
func TestCompactConsidersOneFrame(t *testing.T) {
	w := newStore(t, 150)
	w.grow(4000, 2000, 50, 2142, 3900, 50, 4200, 4246, 3000)
	w.losses(0, 3, 4, 6)
	// Pack 1 has 42 bytes of room, pack 2 has 946: too few for 2,000, and enough for 50.
	if w.had.sparse() != 0 {
		t.Fatalf("the test is wrong: pack %d is sparse", w.had.sparse())
	}
	w.wantStill("no room for the first frame")
	w.losses(1)
	w.wantMove(keyOf(2), api.Place{Pack: 0, At: 6000, Len: 50}, api.Place{Pack: 2, At: 7246, Len: 50})
	w.wantMove(keyOf(5), api.Place{Pack: 1, At: 3900, Len: 50}, api.Place{Pack: 2, At: 7296, Len: 50})
	w.wantStill("one pack")
}

// The other pack has room for just so many bytes, or for one less.
func TestCompactIntoTheLastByte(t *testing.T) {
	for _, more := range []int{0, 1} {
		w := newStore(t, 100)
		w.grow(4000, 1000, 3000, 4246, 2946+more)
		w.losses(0, 2)
		if more > 0 {
			w.wantStill("a byte too few")
			continue
		}
		w.wantMove(keyOf(1), api.Place{Pack: 0, At: 4000, Len: 1000}, api.Place{Pack: 1, At: 7192, Len: 1000})
		w.wantStill("one pack")
	}
}

// Of the other packs with room the one of the least number is used.
func TestCompactChoosesThePack(t *testing.T) {
	// Behind the sparse one: those before it have too little room.
	w := newStore(t, 200)
	w.grow(4000, 4000, 4246, 3700, 500, 4100, 3592, 4246)
	w.losses(5, 6)
	w.wantMove(keyOf(4), api.Place{Pack: 2, At: 0, Len: 500}, api.Place{Pack: 3, At: 4246, Len: 500})

	// Before it, though there is one behind it, too.
	w = newStore(t, 200)
	w.grow(4096, 4096, 4000, 100, 4000, 3990)
	w.losses(0, 1)
	w.set(keyOf(6), dataOf(6, longest))
	w.losses(2, 4)
	w.wantMove(keyOf(3), api.Place{Pack: 1, At: 4000, Len: 100}, api.Place{Pack: 0, At: 4246, Len: 100})
	w.wantStill("nothing is sparse")

	// One that is sparse itself.
	w = newStore(t, 200)
	w.grow(4096, 4096, 4000, 100, 4000, 3000, 500)
	w.losses(2, 4, 5)
	w.wantMove(keyOf(3), api.Place{Pack: 1, At: 4000, Len: 100}, api.Place{Pack: 2, At: 3500, Len: 100})
	w.wantStill("the other pack is full")
	if w.had.sparse() != 2 {
		t.Errorf("the test is wrong: pack %d is sparse", w.had.sparse())
	}
}

// There is room on the disk, but no other pack: none is made.
func TestCompactMakesNoPack(t *testing.T) {
	w := newStore(t, 200)
	w.grow(100, 4000, 4000)
	w.losses(1, 2)
	w.wantStill("one sparse pack")
	w.grow(100, 4000, 4000, 4096, 4096)
	w.losses(1, 2)
	w.wantStill("a sparse pack, and a full one")
	if w.had.sparse() != 0 || len(w.had.boxes) != 2 {
		t.Errorf("the test is wrong: pack %d of %d is sparse", w.had.sparse(), len(w.had.boxes))
	}
}

// The sparse pack is the last one of 64.
func TestCompactOfTheLastPack(t *testing.T) {
	t.Parallel()
	w := full(t)
	w.wantStill("64 packs")
	w.drop(keyOf(126))
	w.drop(keyOf(127))
	w.set(keyOf(126), dataOf(1, 3000))
	w.set(keyOf(127), dataOf(2, 1000))
	w.set(keyOf(128), dataOf(3, 4000))
	w.commit()
	w.drop(keyOf(128))
	w.drop(keyOf(126))
	w.wantStill("no room in 63 packs")
	w.drop(keyOf(40))
	w.drop(keyOf(41))
	w.set(keyOf(41), dataOf(4, longest))
	w.commit()
	w.wantMove(keyOf(127), api.Place{Pack: 63, At: 3046, Len: 1046}, api.Place{Pack: 20, At: 4246, Len: 1046})
	if _, _, e := pack.Stat(w.x, 63); e != api.ErrArg {
		t.Errorf("P12.2: pack 63: error %d", e)
	}
	w.wantStill("63 packs")
}

// Frames that are no record's: a pack of them is sparse, and nothing is moved, in it or in another one that is sparse, too.
func TestCompactOfFramesOfNoRecord(t *testing.T) {
	w := newStore(t, 150)
	var l []api.Place
	for k, n := range []int{3000, 1000, 3000} {
		p, e := pack.Add(w.x, keyOf(k), dataOf(k, n))
		if e != api.OK {
			t.Fatalf("pack.Add: error %d", e)
		}
		l = append(l, p)
	}
	w.commit()
	for _, p := range []api.Place{l[0], l[2]} {
		if e := pack.Drop(w.x, p); e != api.OK {
			t.Fatalf("pack.Drop: error %d", e)
		}
	}
	w.had.boxes[0] = box{used: 7138, live: 1046, frames: []api.Framed{{Key: keyOf(0), At: 0, Len: 3046}, {Key: keyOf(1), At: 3046, Len: 1046}, {Key: keyOf(2), At: 4092, Len: 3046}}}
	w.commit()
	w.wantStill("no record")
	for k, n := range []int{4000, 3000, 1020, 4000} {
		w.set(keyOf(k+1), dataOf(k+9, n)) // the record of 1 is one now, but not the frame in pack 0
		w.rest()
	}
	w.losses(1, 2)
	if used, live, _ := pack.Stat(w.x, 1); 2*live >= used {
		t.Fatalf("the test is wrong: %d of %d bytes are live", live, used)
	}
	w.wantStill("no record, and another pack is sparse")
	w.set(keyOf(1), dataOf(1, 1100))
	w.wantStill("a record of the same key elsewhere")
}

// Compact as long as it tells true: it ends, turns no record, and leaves no more packs than there were, none of them sparse
// as long as there is room.
func TestCompactToTheEnd(t *testing.T) {
	t.Parallel()
	moved := 0
	for seed := range 12 {
		next := numbers(uint64(seed) + 70)
		w := newStore(t, 500)
		for k := range 150 {
			w.set(keyOf(k), dataOf(k, int(next()%uint64(100+seed*150))))
			w.rest()
		}
		for k := range 150 {
			if next()%4 > 0 {
				w.drop(keyOf(k))
				w.rest()
			}
		}
		w.commit()
		w.checkAll("before Compact")
		before, steps := len(w.had.boxes), 0
		for w.compact() {
			steps++
			w.check("Compact to the end")
			if len(w.had.boxes) > before || steps > 1000 {
				t.Fatalf("P12.2: %d packs behind %d steps, not %d", len(w.had.boxes), steps, before)
			}
			w.rest()
		}
		w.wantStill("the end")
		w.commit()
		w.power(nil)
		w.checkAll("the end, and a new opening")
		moved += steps
	}
	if moved < 50 {
		t.Errorf("the test is wrong: only %d records were moved", moved)
	}
}

// Records that are set, dropped and asked for while packs are compacted in between.
func TestCompactInBetween(t *testing.T) {
	t.Parallel()
	w := newStore(t, 300)
	next := numbers(4)
	moved := 0
	for k := range 600 {
		key := keyOf(int(next() % 40))
		if _, ok := w.had.data[key]; ok && next()%2 == 0 {
			w.drop(key)
		} else {
			w.set(key, dataOf(k, int(next()%1200)))
		}
		w.rest()
		if next()%3 == 0 && w.compact() {
			moved++
			w.checkAll("in between")
			w.rest()
		}
	}
	w.checkAll("in between")
	if moved < 20 {
		t.Errorf("only %d records were moved", moved)
	}
}
