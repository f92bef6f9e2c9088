package tree_test

import (
	"bytes"
	"math"
	"testing"

	"coffer/api"
	"coffer/tree"
)

// froms are keys to scan from: each key of a tree, one just ahead of it, one just behind it, and those at the ends.
func froms(had value) []api.ID {
	l := []api.ID{{}, {0, 0, 0, 1}, {255}, api.ID(bytes.Repeat([]byte{255}, 32)), api.ID(bytes.Repeat([]byte{127}, 32)), {128}}
	for _, p := range sorted(had) {
		ahead, behind := p.Key, p.Key
		ahead[31]--
		behind[31]++
		l = append(l, ahead, p.Key, behind)
	}
	return l
}

// From each key and from between any two, so many as there are, and more and fewer: over the borders of leaves.
func TestScan(t *testing.T) {
	t.Parallel()
	for _, n := range []int{0, 1, 10, 11, 23, 150} {
		w := plantWood(t, 1200, 1)
		for _, i := range orders(n + 1)["mixed"] {
			if i < n {
				w.grow(3*i + 1)
			}
		}
		for _, from := range froms(w.had[0]) {
			for _, most := range []int{0, 1, 2, 4, 5, 6, 9, 10, 11, 12, 20, n - 1, n, n + 1, 1 << 31, math.MaxInt, -1, math.MinInt} {
				w.wantScan("from each key", 0, from, most)
			}
		}
		if w.x.Touched() != 0 {
			t.Errorf("P9.2: Scan writes %d sectors", w.x.Touched())
		}
	}
}

// Each number of pairs from each key of a tree of Depth 4.
func TestScanOfADeepTree(t *testing.T) {
	t.Parallel()
	w := plantWood(t, 1200, 1)
	w.grow(orders(1100)["mixed"]...)
	want := sorted(w.had[0])
	for i := 0; i < 1100; i += 7 {
		for _, most := range []int{1, 2, 3, 17, 100, 1099 - i, 1100 - i, 1101 - i} {
			l, e := tree.Scan(w.x, w.roots[0], keyOf(i), most)
			if e != api.OK || len(l) != min(max(most, 0), 1100-i) {
				t.Fatalf("P9.2: Scan from %d, %d: %d pairs, error %d", i, most, len(l), e)
			}
			for k, p := range l {
				if p != want[i+k] {
					t.Fatalf("P9.2: Scan from %d, %d: pair %d is % x", i, most, k, p.Key)
				}
			}
		}
	}
}

// A whole tree read piece by piece, each from just behind the last key of the one before.
func TestScanInPieces(t *testing.T) {
	w := plantWood(t, 600, 1)
	w.grow(orders(200)["outwards"]...)
	for most := 1; most < 40; most++ {
		var all []api.Pair
		from := api.ID{}
		for {
			l, e := tree.Scan(w.x, w.roots[0], from, most)
			if e != api.OK || len(l) > most {
				t.Fatalf("P9.2: Scan: %d pairs, error %d", len(l), e)
			}
			all = append(all, l...)
			if len(l) < most {
				break
			}
			from = l[most-1].Key
			from[31]++
		}
		for i, p := range all {
			if p.Key != keyOf(i) || p.Val != valOf(i) {
				t.Fatalf("P9.2: pieces of %d: pair %d is % x", most, i, p.Key)
			}
		}
		if len(all) != 200 {
			t.Errorf("P9.2: pieces of %d: %d pairs", most, len(all))
		}
	}
}

// Inner nodes keep keys that were dropped: a Scan from them, and a Get of them, finds what is left.
func TestKeysThatOnlyInnerNodesHave(t *testing.T) {
	w := plantWood(t, 600, 1)
	w.grow(orders(200)["rising"]...)
	found := 0
	for n := range 200 {
		w.drop(0, keyOf(n))
		inner := map[api.ID]int{}
		for _, s := range w.look(0).spots {
			for k := range s.keys {
				if !s.leaf {
					inner[api.ID(s.keys[k])]++
				}
			}
		}
		if inner[keyOf(n)] > 0 {
			found++
			w.wantFailure("a key of an inner node", get(keyOf(n)), api.ErrNone)
			w.wantFailure("a key of an inner node", drop(keyOf(n)), api.ErrNone)
			w.wantScan("a key of an inner node", 0, keyOf(n), 15)
			w.put(0, keyOf(n), valOf(n+1))
			w.check("a key of an inner node", 0)
			w.wantAnswers("a key of an inner node")
		}
		w.abort()
	}
	if found == 0 {
		t.Errorf("no key was in an inner node only")
	}
}
