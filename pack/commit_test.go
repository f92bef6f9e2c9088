package pack_test

import (
	"bytes"
	"fmt"
	"testing"

	"coffer/api"
	"coffer/pack"
	"coffer/txn"
)

// change adds a frame or drops one, as a number tells.
func (w *shed) change(k int) {
	w.t.Helper()
	l := w.had.places()
	if n, _ := w.had.choice(head+k*131%2000, -1, true); n < 0 || len(l) > 0 && k%3 == 0 {
		w.drop(l[k*7%len(l)])
		return
	}
	w.add(keyOf(k), dataOf(k, k*131%2000))
}

// What a transaction did is there behind Commit, and behind Power and Open; and nothing of it is behind Abort, or behind
// Power without Commit.
func TestCommitAndAbort(t *testing.T) {
	t.Parallel()
	w := newShed(t, 100)
	next := numbers(3)
	for k := range 300 {
		for range 1 + next()%4 {
			w.change(int(next() % 5000))
		}
		w.check("before the end")
		switch next() % 5 {
		case 0:
			w.abort()
		case 1:
			w.power([]bool{true, false, true, true})
		case 2:
			w.commit()
			w.power([]bool{next()%2 == 0})
		default:
			w.commit()
		}
		w.check("behind the end")
		if k%10 == 0 {
			w.wantAnswers("behind the end")
		}
	}
}

// An aborted transaction leaves nothing: no pack that it made, no frame, and the pack that it deleted is there.
func TestAbort(t *testing.T) {
	w := newShed(t, 100)
	l := w.grow(100, 4246, 4246)
	before := w.sight()
	w.add(keyOf(1), dataOf(1, 500))
	w.add(keyOf(2), dataOf(2, longest))
	w.abort()
	w.wantSight("P7.2: Abort behind Add", before)
	w.drop(l[0])
	w.drop(l[1])
	w.check("Drop")
	w.drop(l[2])
	w.check("Drop")
	w.abort()
	w.wantSight("P7.2: Abort behind Drop", before)
	w.wantAnswers("Abort")
}

// What was committed is there behind a new opening, with and without a checkpoint.
func TestCommitAndOpen(t *testing.T) {
	t.Parallel()
	for _, checks := range []bool{false, true} {
		w := newShed(t, 200)
		for k, n := range []int{0, 100, 3000, longest, 466, 900} {
			w.add(keyOf(k), dataOf(k, n))
			w.commit()
			if checks && w.j.Checkpoint() != api.OK {
				t.Fatalf("journal.Checkpoint fails")
			}
			w.power(nil)
			w.check("a new opening")
			w.wantAnswers("a new opening")
		}
		for _, p := range w.had.places() {
			w.drop(p)
			w.commit()
			w.power(nil)
			w.check("a new opening")
			w.wantAnswers("a new opening")
		}
	}
}

// The power fails at each operation of the disk within a Commit: the packs are there as they were, or as they became.
func TestPowerWithinCommit(t *testing.T) {
	t.Parallel()
	base := newShed(t, 100)
	l := base.grow(4000, 3000, 100)
	for name, do := range map[string]func(w *shed){
		"a frame more":           func(w *shed) { w.add(keyOf(7), dataOf(7, 900)) },
		"a pack more":            func(w *shed) { w.add(keyOf(7), dataOf(7, longest)) },
		"a frame less":           func(w *shed) { w.drop(l[0]) },
		"a pack less":            func(w *shed) { w.drop(l[0]); w.drop(l[1]); w.drop(l[2]) },
		"a frame moves to a new": func(w *shed) { w.drop(l[0]); w.add(keyOf(0), dataOf(0, 3900)) },
	} {
		whole := base.copy(t)
		do(whole)
		for at := range whole.x.Touched() + 5 {
			for _, keep := range [][]bool{nil, bytesAsBools(255, 255, 255), bytesAsBools(2), bytesAsBools(85, 85)} {
				w := base.copy(t)
				do(w)
				became := w.had
				w.d.Arm(at, 100)
				e := w.x.Commit()
				w.power(keep)
				table := became.table()
				if bytes.Equal(w.read(2), table[:512]) {
					w.had = became
				} else if e == api.OK {
					t.Errorf("W2: %s: a Commit that was OK is lost", name)
				}
				where := fmt.Sprintf("%s, a failure at %d", name, at)
				w.check(where)
				w.wantAnswers(where)
			}
		}
	}
}

// bytesAsBools are the bits of bytes, the least significant one first.
func bytesAsBools(l ...byte) []bool {
	var out []bool
	for _, b := range l {
		for range 8 {
			out = append(out, b&1 == 1)
			b >>= 1
		}
	}
	return out
}

// Of two transactions that change packs the one that commits first stays; the other one saw none of it.
func TestSideBySide(t *testing.T) {
	w := newShed(t, 100)
	l := w.grow(1000, 2000)
	y, e := txn.Begin(w.j)
	if e != api.OK {
		t.Fatalf("txn.Begin: error %d", e)
	}
	p := w.add(keyOf(3), dataOf(3, 500))
	w.drop(l[0])
	if _, e := pack.Get(y, p, keyOf(3)); e != api.ErrArg {
		t.Errorf("P11.2: Get of a frame of another transaction: error %d", e)
	}
	if used, live, e := pack.Stat(y, 0); used != 3000 || live != 3000 || e != api.OK {
		t.Errorf("P11.3: Stat beside another transaction: %d, %d, error %d", used, live, e)
	}
	if q, e := pack.Add(y, keyOf(4), nil); q != (api.Place{Pack: 0, At: 3000, Len: 46}) || e != api.OK {
		t.Errorf("P11.1: Add beside another transaction: %v, error %d", q, e)
	}
	w.check("side by side")
	w.commit()
	if e := y.Commit(); e != api.ErrOrder {
		t.Errorf("txn.Commit: error %d", e)
	}
	w.check("side by side")
	w.wantAnswers("side by side")
}

// Two disks do not know of each other, and the same calls give the same bytes.
func TestTwoDisks(t *testing.T) {
	t.Parallel()
	v, w := newShed(t, 100), newShed(t, 100)
	next := numbers(9)
	for range 200 {
		k := int(next() % 5000)
		v.change(k)
		w.change(k)
		if next()%3 == 0 {
			v.commit()
			w.commit()
		}
		v.check("one of two disks")
		w.check("the other one of two disks")
	}
	w.wantSight("P0.5: another disk", v.sight())
}
