package tree_test

import (
	"testing"

	"coffer/api"
	"coffer/journal"
	"coffer/tree"
	"coffer/txn"
)

// Two trees side by side in one transaction: each has its own keys, and none of the other's sectors.
func TestTwoTrees(t *testing.T) {
	t.Parallel()
	w := plantWood(t, 1200, 2)
	one, other := orders(220)["mixed"], orders(220)["rising"]
	for k := range 220 {
		w.put(0, keyOf(one[k]), valOf(k))
		w.put(1, keyOf(other[k]), valOf(k+300))
		if k%3 == 1 {
			w.check("two trees, before Commit", 0)
			w.commit()
		}
		w.check("two trees", 0)
	}
	w.wantAnswers("two trees")
	for k := range 220 {
		w.drop(0, keyOf(other[k]))
		w.put(1, keyOf(one[k]+1000), valOf(k))
		w.commit()
		w.check("two trees, one of them shrinks", 0)
	}
	if w.roots[0] != 0 {
		t.Errorf("P9.1: root %d behind the last key", w.roots[0])
	}
	w.wantAnswers("two trees, one of them empty")
	for k := range 220 {
		w.drop(1, keyOf(one[k]))
		w.put(0, keyOf(other[k]), valOf(k))
		w.commit()
		w.check("two trees, the other one shrinks", 0)
	}
	w.wantAnswers("two trees, the same keys")
}

// fell does one of several things, in turn.
func fell(w *wood, k, n int) {
	w.t.Helper()
	if _, there := w.had[0][keyOf(n)]; there && k%3 != 0 {
		w.drop(0, keyOf(n))
	} else {
		w.put(0, keyOf(n), valOf(k))
	}
}

// What a transaction did is there behind Commit, and behind Power and Open; and nothing of it is behind Abort, or behind Power without Commit.
func TestCommitAndAbort(t *testing.T) {
	t.Parallel()
	w := plantWood(t, 1200, 1)
	next := numbers(3)
	for k := range 900 {
		for range 1 + next()%4 {
			fell(w, k, int(next()%230))
		}
		w.check("before the end", 0)
		switch next() % 6 {
		case 0:
			w.abort()
		case 1:
			w.power([]bool{true, false, true, true})
		case 2:
			w.commit()
			w.power([]bool{next()%2 == 0})
		default:
			w.commit()
		}
		w.check("behind the end", 0)
		if k%20 == 0 {
			w.wantAnswers("behind the end")
		}
	}
	if w.depth() < 3 {
		t.Errorf("only a tree of Depth %d was made", w.depth())
	}
}

// The power fails at each operation of the disk within a Commit: the tree is there as it was, or as it became.
func TestPowerWithinCommit(t *testing.T) {
	base := plantWood(t, 400, 1)
	base.grow(orders(100)["rising"]...)
	base.put(0, keyOf(100), valOf(100))
	whole := base.x.Touched() + 5
	for at := range whole {
		for _, keep := range [][]bool{nil, {true, true, true, true, true, true, true, true}, {false, true}} {
			w := base.copy()
			w.put(0, keyOf(100), valOf(100))
			root, had := w.roots[0], w.had[0]
			w.d.Arm(at, 100)
			e := w.x.Commit()
			w.power(keep)
			// The old root is as good as any to tell by: neither key nor value stands anywhere if nothing was committed.
			if _, none := tree.Get(w.x, root, keyOf(100)); none == api.OK {
				w.roots[0], w.had[0] = root, had
			} else if e == api.OK {
				t.Errorf("W2: a Commit that was OK is lost")
			}
			w.check("behind a failure within Commit", 0)
			w.wantAnswers("behind a failure within Commit")
		}
	}
}

// Of two transactions that change a tree the one that commits first stays; the other one saw none of it.
func TestSideBySide(t *testing.T) {
	w := plantWood(t, 600, 1)
	w.grow(orders(60)["mixed"]...)
	y, e := txn.Begin(w.j)
	if e != api.OK {
		t.Fatalf("txn.Begin: error %d", e)
	}
	w.put(0, keyOf(70), valOf(70))
	w.drop(0, keyOf(5))
	before := w.lastRoots[0]
	if _, e := tree.Get(y, before, keyOf(70)); e != api.ErrNone {
		t.Errorf("P9.1: Get of a key of another transaction: error %d", e)
	}
	if v, e := tree.Get(y, before, keyOf(5)); v != valOf(5) || e != api.OK {
		t.Errorf("P9.1: Get of a key that another transaction dropped: % x, error %d", v, e)
	}
	if _, e := tree.Put(y, before, keyOf(71), valOf(71)); e != api.OK {
		t.Errorf("P9.1: Put side by side: error %d", e)
	}
	w.commit()
	if e := y.Commit(); e != api.ErrOrder {
		t.Errorf("txn.Commit: error %d", e)
	}
	w.check("side by side", 0)
	w.wantAnswers("side by side")
}

// Two disks do not know of each other, and the same calls give the same bytes.
func TestTwoDisks(t *testing.T) {
	v, w := plantWood(t, 600, 1), plantWood(t, 600, 1)
	next := numbers(9)
	for k := range 400 {
		n := int(next() % 120)
		fell(v, k, n)
		fell(w, k, n)
		if k%3 == 0 {
			v.commit()
			w.commit()
		}
		if v.roots[0] != w.roots[0] {
			t.Fatalf("P0.5: the roots are %d and %d", v.roots[0], w.roots[0])
		}
	}
	w.wantSight("P0.5: another disk", v.sight())
}

// ends are the ways in which a transaction is finished.
func ends() map[string]func(w *wood) api.Errno {
	return map[string]func(w *wood) api.Errno{
		"Commit":            func(w *wood) api.Errno { return w.x.Commit() },
		"a Commit too late": func(w *wood) api.Errno { bump(w.j); return w.x.Commit() },
		"a Commit without power": func(w *wood) api.Errno {
			w.d.Power(nil)
			return w.x.Commit()
		},
		"Abort": func(w *wood) api.Errno { w.x.Abort(); return api.OK },
	}
}

func bump(j *journal.Journal) {
	j.Commit([]api.Put{{Sector: 200, Data: sectorOf(20)}})
}
