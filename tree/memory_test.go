package tree_test

import (
	"slices"
	"testing"

	"coffer/api"
	"coffer/tree"
)

// scribble writes over all of a slice, its unused capacity too.
func scribble(l []api.Pair) {
	l = l[:cap(l)]
	for i := range l {
		for k := range l[i].Key {
			l[i].Key[k] ^= 255
		}
		for k := range l[i].Val {
			l[i].Val[k] ^= 255
		}
	}
}

// What Scan returns may be written over: neither the tree nor what another Scan returned changes by that.
func TestScanIsWrittenOver(t *testing.T) {
	w := plantWood(t, 600, 1)
	w.grow(orders(150)["mixed"]...)
	before := w.sight()
	for _, most := range []int{1, 5, 10, 11, 149, 150, 1000} {
		one, e := tree.Scan(w.x, w.roots[0], api.ID{}, most)
		other, f := tree.Scan(w.x, w.roots[0], api.ID{}, most)
		if e != api.OK || f != api.OK {
			t.Fatalf("P9.2: Scan: errors %d, %d", e, f)
		}
		kept := slices.Clone(other)
		scribble(one)
		if !slices.Equal(other, kept) {
			t.Errorf("P0.3: two calls of Scan share memory")
		}
		w.wantScan("P0.3: written over", 0, api.ID{}, most)
		_ = append(other[:0], one...)
		w.wantScan("P0.3: written over", 0, api.ID{}, most)
	}
	w.wantSight("P0.3: written over", before)
	w.wantAnswers("P0.3: written over")
}

// What is handed in may be written over as soon as the call is back.
func TestArgumentsAreWrittenOver(t *testing.T) {
	w := plantWood(t, 600, 1)
	var key, from api.ID
	var v api.Val
	for _, n := range orders(120)["mixed"] {
		key, v = keyOf(n), valOf(n)
		root, e := tree.Put(w.x, w.roots[0], key, v)
		if e != api.OK || key != keyOf(n) || v != valOf(n) {
			t.Fatalf("P9.1: Put: error %d", e)
		}
		w.roots[0], w.had[0][key] = root, v
		key, v = api.ID{}, api.Val{}
		l, _ := tree.Scan(w.x, root, from, 3)
		from = keyOf(n)
		scribble(l)
		w.commit()
		w.check("P0.3: arguments", 0)
	}
	got, e := tree.Get(w.x, w.roots[0], keyOf(7))
	got[0]++
	if again, f := tree.Get(w.x, w.roots[0], keyOf(7)); again != valOf(7) || e != api.OK || f != api.OK {
		t.Errorf("P0.3: Get: errors %d, %d, % x", e, f, again)
	}
	w.wantAnswers("P0.3: arguments")
}
