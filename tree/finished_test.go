package tree_test

import (
	"testing"

	"coffer/api"
	"coffer/tree"
	"coffer/txn"
)

func wantFinished(t *testing.T, where string, x *txn.Tx, roots ...uint32) {
	t.Helper()
	for _, root := range append(roots, 0, 4, 5) {
		for _, n := range []int{0, 5, 70} {
			for _, c := range all(keyOf(n)) {
				wantError(t, where, x, root, c, api.ErrNone)
			}
		}
		for _, most := range []int{0, -1} {
			wantError(t, where, x, root, scan(api.ID{}, most), api.ErrNone)
		}
	}
}

func TestNoTransaction(t *testing.T) {
	var none *txn.Tx
	wantFinished(t, "a nil transaction", none)
	wantFinished(t, "a zero transaction", &txn.Tx{})
}

// A transaction that wrote nothing, one that made the tree, and one that changed it, finished in each way, and whatever becomes of the journal behind that.
func TestFinished(t *testing.T) {
	answers := map[string]api.Errno{"a Commit too late": api.ErrOrder, "a Commit without power": api.ErrDead}
	for name, end := range ends() {
		for _, n := range []int{0, 1, 30} {
			w := plantWood(t, 600, 1)
			w.grow(orders(40)["mixed"]...)
			for i := range n {
				w.put(0, keyOf(i+50), valOf(i))
			}
			root := w.roots[0]
			if e := end(w); e != answers[name] {
				t.Fatalf("%s: error %d, not %d", name, e, answers[name])
			}
			turn, writes := w.j.Turn(), w.d.Writes()
			wantFinished(t, name, w.x, root)
			if w.j.Turn() != turn || w.d.Writes() != writes || w.x.Touched() != 0 {
				t.Errorf("%s: a finished transaction writes", name)
			}
			bump(w.j)
			wantFinished(t, name+", and the journal goes on", w.x, root)
			w.d.Power(nil)
			wantFinished(t, name+", and the journal is closed", w.x, root)
		}
	}
}

// An empty tree has no keys, and asking it changes nothing.
func TestRootZero(t *testing.T) {
	w := plantWood(t, 600, 1)
	before := w.sight()
	for _, key := range []api.ID{{}, keyOf(3), {255}} {
		w.wantFailure("an empty tree", get(key), api.ErrNone)
		w.wantFailure("an empty tree", drop(key), api.ErrNone)
		for _, most := range []int{-1, 0, 1, 5, 1 << 40} {
			w.wantScan("an empty tree", 0, key, most)
		}
	}
	w.check("an empty tree", 0)
	w.wantSight("P9.2: an empty tree that was asked", before)
	for n := range 3 {
		root, e := tree.Put(w.x, 0, keyOf(n), valOf(n))
		if root != uint32(4+n) || e != api.OK {
			t.Errorf("P9.1: Put(0): root %d, error %d: each one is a tree of its own", root, e)
		}
	}
}

// shut are the ways in which a journal is closed, or will be when it asks the disk.
func shut() map[string]func(w *wood) {
	return map[string]func(w *wood){
		"Power":             func(w *wood) { w.d.Power(nil) },
		"a failed Commit":   func(w *wood) { w.d.Arm(0, 0); bump(w.j) },
		"a disk that fails": func(w *wood) { w.d.Arm(0, 0); w.d.Flush() },
	}
}

// A journal that is closed between Begin and the call: ErrDead of what needs it, and no trace in the transaction.
func TestClosed(t *testing.T) {
	for name, close := range shut() {
		for _, n := range []int{1, 10, 40, 150} {
			w := plantWood(t, 600, 1)
			w.grow(orders(n)["mixed"]...)
			if e := w.j.Checkpoint(); e != api.OK {
				t.Fatalf("journal.Checkpoint: error %d", e)
			}
			close(w)
			for _, k := range []int{0, n - 1, n + 7} {
				for _, c := range all(keyOf(k)) {
					wantError(t, name, w.x, w.roots[0], c, api.ErrDead)
				}
			}
			wantError(t, name, w.x, 0, put(keyOf(3), valOf(3)), api.ErrDead)
			wantError(t, name, w.x, 0, get(keyOf(3)), api.ErrNone)
			wantError(t, name, w.x, 0, drop(keyOf(3)), api.ErrNone)
			if w.x.Touched() != 0 {
				t.Errorf("%s: P0.2: %d sectors are written", name, w.x.Touched())
			}
		}
	}
}
