package keep_test

import (
	"slices"
	"testing"

	"coffer/api"
	"coffer/keep"
	"coffer/tree"
	"coffer/txn"
)

// change sets a record, drops one or moves one, as a number tells.
func (w *store) change(k int) {
	w.t.Helper()
	keys := w.had.keys()
	switch {
	case k%4 == 0 && len(keys) > 0:
		w.drop(keys[k/4%len(keys)])
	case k%4 == 1:
		w.compact()
	default:
		w.set(keyOf(k/4%30), dataOf(k, k*131%1700))
	}
}

// What a transaction did is there behind Commit, and behind Power and Open; and nothing of it is behind Abort, or behind
// Power without Commit.
func TestCommitAndAbort(t *testing.T) {
	t.Parallel()
	w := newStore(t, 400)
	next := numbers(3)
	for range 300 {
		for range 1 + next()%3 {
			w.change(int(next() % 5000))
		}
		w.check("before the end")
		switch next() % 5 {
		case 0:
			w.abort()
		case 1:
			w.power([]bool{true, false, true, true})
		case 2:
			w.commit()
			w.power([]bool{next()%2 == 0})
		default:
			w.commit()
		}
		w.checkAll("behind the end")
	}
}

// An aborted transaction leaves nothing: no record that it set, no tree, no pack; and what it dropped or moved is where it was.
func TestAbort(t *testing.T) {
	w := newStore(t, 100)
	empty := w.sight()
	w.set(keyOf(1), dataOf(1, longest))
	w.set(keyOf(2), nil)
	w.abort()
	w.wantSight("P7.2: Abort of the first records", empty)
	w.checkAll("Abort")

	w.grow(4000, 100, 4000, 4246)
	w.losses(0, 2)
	before := w.sight()
	w.compact()
	w.abort()
	w.wantSight("P7.2: Abort behind Compact", before)
	w.drop(keyOf(1))
	w.drop(keyOf(3))
	w.checkAll("all are dropped")
	w.abort()
	w.wantSight("P7.2: Abort behind Drop", before)
	w.set(keyOf(1), dataOf(1, 1000))
	w.abort()
	w.wantSight("P7.2: Abort behind Set", before)
	w.checkAll("Abort")
}

// What was committed is there behind a new opening, with and without a checkpoint.
func TestCommitAndOpen(t *testing.T) {
	t.Parallel()
	for _, checks := range []bool{false, true} {
		w := newStore(t, 200)
		again := func(name string) {
			t.Helper()
			w.commit()
			if checks && w.j.Checkpoint() != api.OK {
				t.Fatalf("journal.Checkpoint fails")
			}
			w.power(nil)
			w.checkAll(name + ", and a new opening")
		}
		for k, n := range []int{0, 100, 3000, longest, 466, 900, 4000, 50, 60, 70, 80, 90} {
			w.set(keyOf(k), dataOf(k, n))
			again("Set")
		}
		for _, k := range []int{2, 6} {
			w.drop(keyOf(k))
			again("Drop")
		}
		for w.compact() {
			again("Compact")
		}
		for _, key := range w.had.keys() {
			w.drop(key)
			again("Drop")
		}
	}
}

// The power fails at each operation of the disk within a Commit: the records are there as they were, or as they became.
func TestPowerWithinCommit(t *testing.T) {
	t.Parallel()
	base := newStore(t, 120)
	base.grow(4000, 100, 4000, 4246, 200)
	base.losses(0, 2)
	for name, do := range map[string]func(w *store){
		"a record more":     func(w *store) { w.set(keyOf(7), dataOf(7, 900)) },
		"a record changes":  func(w *store) { w.set(keyOf(3), dataOf(7, 4000)) },
		"a record less":     func(w *store) { w.drop(keyOf(1)) },
		"a record moves":    func(w *store) { w.compact() },
		"all records go":    func(w *store) { w.drop(keyOf(1)); w.drop(keyOf(3)); w.drop(keyOf(4)) },
		"records come, go":  func(w *store) { w.drop(keyOf(3)); w.set(keyOf(8), nil); w.compact() },
		"a record, the old": func(w *store) { w.drop(keyOf(4)); w.set(keyOf(4), dataOf(4, 154)) },
	} {
		whole := base.copy(t)
		do(whole)
		for at := range whole.x.Touched() + 5 {
			for _, stay := range [][]bool{nil, slices.Repeat([]bool{true}, 24), {false, true}, slices.Repeat([]bool{true, false}, 8)} {
				w := base.copy(t)
				do(w)
				became := w.had
				w.d.Arm(at, 100)
				e := w.x.Commit()
				w.power(stay)
				if l, f := tree.Scan(w.x, w.root(), api.ID{}, 100); f == api.OK && slices.Equal(l, became.pairs()) {
					w.had = became
				} else if e == api.OK {
					t.Errorf("W2: %s: a Commit that was OK is lost", name)
				}
				w.checkAll(where("%s, a failure at %d", name, at))
			}
		}
	}
}

// Of two transactions that change a store the one that commits first stays; the other one saw none of it.
func TestSideBySide(t *testing.T) {
	w := newStore(t, 100)
	w.grow(1000, 2000)
	y, e := txn.Begin(w.j)
	if e != api.OK {
		t.Fatalf("txn.Begin: error %d", e)
	}
	w.set(keyOf(3), dataOf(3, 500))
	w.set(keyOf(1), dataOf(4, 500))
	w.drop(keyOf(0))
	if _, e := keep.Get(y, keyOf(3)); e != api.ErrNone {
		t.Errorf("P12.1: Get of a record of another transaction: error %d", e)
	}
	if b, e := keep.Get(y, keyOf(1)); !slices.Equal(b, dataOf(1, 2000-head)) || e != api.OK {
		t.Errorf("P12.1: Get of a record that another transaction set: %d bytes, error %d", len(b), e)
	}
	if n, e := keep.Len(y); n != 2 || e != api.OK {
		t.Errorf("P12.1: Len beside another transaction: %d, error %d", n, e)
	}
	if e := keep.Set(y, keyOf(5), nil); e != api.OK {
		t.Errorf("P12.1: Set beside another transaction: error %d", e)
	}
	w.checkAll("side by side")
	w.commit()
	if e := y.Commit(); e != api.ErrOrder {
		t.Errorf("txn.Commit: error %d", e)
	}
	w.checkAll("side by side")
}

// Two disks do not know of each other, and the same calls give the same bytes.
func TestTwoDisks(t *testing.T) {
	t.Parallel()
	v, w := newStore(t, 400), newStore(t, 400)
	next := numbers(9)
	for range 200 {
		k := int(next() % 5000)
		v.change(k)
		w.change(k)
		if next()%3 == 0 || w.x.Touched() > 15 {
			v.commit()
			w.commit()
		}
		v.check("one of two disks")
		w.check("the other one of two disks")
	}
	w.wantSight("P0.5: another disk", v.sight())
	w.wantRecords("the other one of two disks")
}
