package keep_test

import (
	"slices"
	"testing"

	"coffer/api"
	"coffer/keep"
	"coffer/space"
)

// own writes into the transaction what is there already in each of the sectors but one: those can be read and written
// again whatever becomes of the journal, and however many others are written.
func (w *store) own(l []int, but int) {
	w.t.Helper()
	for _, i := range l {
		if i != but {
			w.write(i, w.read(i))
		}
	}
}

// contents are what a transaction has in sectors, those left out that it cannot tell.
func (w *store) contents(l []int) map[int]string {
	m := map[int]string{}
	for _, i := range l {
		if b, e := w.x.Read(i); e == api.OK {
			m[i] = string(b)
		}
	}
	return m
}

// sectors are those that a call could need: all that are allocated, and the next ones that are free.
func (w *store) sectors() []int {
	w.t.Helper()
	var used, free []int
	for i, n := range w.owners() {
		if n > 0 {
			used = append(used, i)
		} else {
			free = append(free, i)
		}
	}
	if len(used) > 38 {
		w.t.Fatalf("the test is wrong: %d sectors are allocated", len(used))
	}
	return append(used, free[:39-len(used)]...)
}

// wantHalfway makes a call for which one sector is out of reach. It answers as one that has all of them, or else with the
// error, and then nothing comes of it. It reports which.
func (w *store) wantHalfway(name string, c call, l []int, twin *store, e api.Errno) bool {
	w.t.Helper()
	before, touched := w.contents(l), w.x.Touched()
	want, got := c.do(twin.x), c.do(w.x)
	if got.e == e {
		want = answer{words: got.words, zero: true, e: e}
		if w.x.Touched() != touched {
			w.t.Errorf("%s: P0.2: %d sectors are written, not %d", name, w.x.Touched(), touched)
		}
	} else {
		before = twin.contents(l)
	}
	if got != want {
		w.t.Errorf("%s: error %d, %s; not error %d, %s", name, got.e, got.words, want.e, want.words)
	}
	for i, b := range w.contents(l) {
		if had, ok := before[i]; b != had && ok {
			w.t.Errorf("%s: error %d: sector %d is % x.., not % x..", name, got.e, i, b[:72], had[:72])
		}
	}
	return got.e == e
}

// halves are calls that read and write several sectors, about the n-th key and one that has no record.
func halves(n int) []call {
	var l []call
	for _, key := range []api.ID{keyOf(n), keyOf(1000)} {
		for _, size := range []int{0, 700, 3000, longest} {
			l = append(l, set(key, dataOf(5, size)))
		}
		l = append(l, get(key), drop(key), scan(key, 3))
	}
	return append(l, scan(api.ID{}, 1), scan(api.ID{}, 100), length(), compact(), format())
}

// halfStores are stores of few sectors: on one records move to and fro between packs, on the other ones Set and Drop split
// and join nodes of the tree, and on the last one the last records of packs go.
func halfStores(t *testing.T) map[string]*store {
	t.Helper()
	packs := newStore(t, 90)
	packs.grow(4246, 100, 3800, 4246, 50)
	packs.losses(0)
	full := newStore(t, 90)
	full.grow(46, 147, 48, 249, 50, 51, 52, 353, 54, 55)
	split := newStore(t, 90)
	split.grow(46, 147, 48, 249, 50, 51, 52, 353, 54, 55, 56)
	split.losses(9)
	alone := newStore(t, 90)
	alone.grow(4000, 4246)
	sparse := newStore(t, 90)
	sparse.grow(3000, 700, 4000, 1000, 3000)
	sparse.losses(0, 2)
	return map[string]*store{"packs": packs, "a full leaf": full, "two leaves": split, "alone": alone, "sparse": sparse}
}

// A call stops halfway where the journal is closed and it has one sector yet to read, and where the transaction is full and
// it has one sector yet to write, whichever that is.
func TestHalfway(t *testing.T) {
	for name, base := range halfStores(t) {
		t.Run(name, func(t *testing.T) {
			t.Parallel()
			l, stops := base.sectors(), map[string]int{}
			for _, but := range l {
				for _, c := range slices.Concat(halves(1), []call{drop(keyOf(0)), set(keyOf(3), dataOf(3, longest))}) {
					name := where("but sector %d: %s", but, c.name)
					w := base.copy(t)
					w.own(l, but)
					w.d.Power(nil)
					if w.wantHalfway("closed: "+name, c, l, base.copy(t), api.ErrDead) {
						stops["closed"]++
					}
					w = base.copy(t)
					w.own(l, but)
					w.fill(40 - w.x.Touched())
					if w.wantHalfway("full: "+name, c, l, base.copy(t), api.ErrLong) {
						stops["full"]++
					}
				}
			}
			if stops["closed"] < 30 || stops["full"] < 30 {
				t.Errorf("so many calls stopped: %v", stops)
			}
		})
	}
}

// A transaction that has room for fewer sectors than a call writes: ErrLong, and nothing comes of it. With room for just as
// many it is not.
func TestErrLongOfTheTransaction(t *testing.T) {
	t.Parallel()
	for name, base := range halfStores(t) {
		for _, c := range slices.Concat(halves(1), []call{drop(keyOf(0)), set(keyOf(3), dataOf(3, longest)), set(keyOf(3), nil)}) {
			w := base.copy(t)
			want := c.do(w.x)
			wrote := w.x.Touched()
			if want.e != api.OK || wrote == 0 {
				continue
			}
			for others := 40 - wrote; others <= 40; others++ {
				w := base.copy(t)
				w.fill(others)
				if others > 40-wrote {
					w.wantFailure(where("%s: %d others are written", name, others), c, api.ErrLong)
				} else if got := c.do(w.x); got != want || w.x.Touched() != 40 {
					t.Errorf("%s: %d others are written: %s: error %d, %d sectors are written", name, others, c.name, got.e, w.x.Touched())
				}
			}
		}
	}
}

// What a call wrote ahead of an error is taken back, but not what the transaction wrote before.
func TestNothingElseIsTakenBack(t *testing.T) {
	w := newStore(t, 4+2*long+1)
	w.grow(4246, 3900, 4246)
	w.set(keyOf(0), dataOf(20, 3000))
	w.set(keyOf(2), dataOf(21, 800))
	w.checkAll("changes ahead of an error")
	for range 3 {
		w.wantFailure("no room", set(keyOf(0), dataOf(22, longest)), api.ErrFull)
		w.wantFailure("no room", set(keyOf(9), dataOf(22, longest)), api.ErrFull)
		w.wantFailure("too much", set(keyOf(2), dataOf(22, longest+1)), api.ErrLong)
		w.wantFailure("no such record", drop(keyOf(9)), api.ErrNone)
	}
	w.checkAll("behind errors")
	w.commit()
	w.power(nil)
	w.checkAll("behind errors, and a new opening")
}

// A record moves, but the live bytes of its pack are fewer than its frame has: pack.Drop's ErrArg, and neither the frame nor
// the tree's place of it moved.
func TestCompactOfAPackThatCountsWrong(t *testing.T) {
	w := newStore(t, 100)
	w.grow(500, 4000, 3000, 4246)
	w.losses(1, 2)
	w.setEntry(0, w.starts()[0], 7500, 499)
	w.commit()
	w.wantFailure("less is live than the frame has", compact(), api.ErrArg)
	w.wantRecords("less is live than the frame has")
	w.setEntry(0, w.starts()[0], 7500, 500)
	w.commit()
	w.wantMove(keyOf(0), api.Place{Pack: 0, At: 0, Len: 500}, api.Place{Pack: 1, At: 4246, Len: 500})
}

// A frame of a sparse pack is not what was kept: ErrRot, and nothing moves. If it is one that was dropped, the records of the
// pack may yet be told by the tree alone, and then the first one of them moves.
func TestCompactOfRottenFrames(t *testing.T) {
	for _, at := range []int{0, 20, 46, 499, 500, 4499, 4500, 4530, 4700, 4999} {
		w := newStore(t, 100)
		w.grow(500, 4000, 500, 3000, 4246)
		w.losses(0, 1, 3)
		w.turn(0, at, 1)
		w.commit()
		before := w.sight()
		ok, e := keep.Compact(w.x)
		live := at >= 4500 && at < 5000
		switch {
		case e != api.OK:
			w.wantSight(where("byte %d is not what was kept: P0.2", at), before)
			if ok || e != api.ErrRot && !(live && e == api.ErrSyntax) {
				t.Errorf("P12.2: byte %d is not what was kept: Compact: %v, error %d", at, ok, e)
			}
		case live || !ok:
			t.Errorf("P12.2: byte %d is not what was kept: Compact: %v", at, ok)
		default:
			w.wantRecords("a frame that was dropped is not what was kept")
		}
	}
}

// Behind the frames of a sparse pack there are bytes in use that are none.
func TestCompactOfBytesThatAreNoFrame(t *testing.T) {
	w := newStore(t, 100)
	w.grow(500, 4000, 3000, 4246)
	w.losses(1, 2)
	w.setEntry(0, w.starts()[0], 7499, 500)
	w.commit()
	before := w.sight()
	if ok, e := keep.Compact(w.x); ok != (e == api.OK) || e != api.OK && e != api.ErrRot {
		t.Errorf("P12.2: Compact: %v, error %d", ok, e)
	} else if e != api.OK {
		w.wantSight("P0.2: ErrRot", before)
	}
}

// The bits of a store's sectors were cleared: whatever is returned, nothing comes of an error.
func TestSectorsThatAreNotAllocated(t *testing.T) {
	for _, c := range []call{set(keyOf(0), nil), set(keyOf(1), dataOf(1, 3000)), drop(keyOf(0)), drop(keyOf(2)), compact()} {
		w := newStore(t, 100)
		w.grow(4246, 3900, 4000, 500, 2000)
		w.losses(1)
		for i := 4; i < 60; i += 7 {
			if on, _ := space.Taken(w.x, i); on {
				if e := space.Free(w.x, i, 1); e != api.OK {
					t.Fatalf("space.Free: error %d", e)
				}
			}
		}
		w.commit()
		before := w.sight()
		if got := c.do(w.x); got.e != api.OK {
			w.wantSight("sectors that are not allocated: "+c.name+": P0.2", before)
			if !got.zero {
				t.Errorf("sectors that are not allocated: %s: error %d, and %s", c.name, got.e, got.words)
			}
		}
	}
}
