package tree_test

import (
	"bytes"
	"slices"
	"testing"

	"coffer/api"
	"coffer/space"
	"coffer/tree"
)

// spot is a node as its bytes tell it.
type spot struct {
	leaf bool
	keys [][]byte
	vals [][]byte
	kids []uint32
}

// look is what is found below a root, by the chapter's Definitions.
type look struct {
	w     *wood
	spots map[uint32]*spot
	order []uint32 // the nodes as they were met
	pairs []api.Pair
	depth int
}

func number(b []byte) uint32 {
	return uint32(b[0])*1<<24 + uint32(b[1])*1<<16 + uint32(b[2])*1<<8 + uint32(b[3])
}

// spotOf reads one node, and holds it against what the Definitions say of one.
func spotOf(t *testing.T, b []byte, top bool) *spot {
	t.Helper()
	s := &spot{leaf: b[0] == 1}
	n, least, most, at := int(b[1]), 5, 10, 8
	if !s.leaf {
		least, most = 6, 13
		s.kids = append(s.kids, number(b[8:]))
		at = 12
	}
	if top {
		least = 1
	}
	if b[0] != 1 && b[0] != 2 || n < least || n > most {
		t.Fatalf("P9.1: a node of kind %d with %d keys; the root: %v", b[0], n, top)
	}
	for range n {
		s.keys = append(s.keys, b[at:at+32])
		if s.leaf {
			s.vals = append(s.vals, b[at+32:at+48])
			at += 48
		} else {
			s.kids = append(s.kids, number(b[at+32:]))
			at += 36
		}
	}
	for i, c := range b {
		if c != 0 && (i >= 2 && i < 8 || i >= at) {
			t.Fatalf("P9.1: byte %d of a node of kind %d with %d keys is %d", i, b[0], n, c)
		}
	}
	return s
}

// visit goes over what is below a node whose keys must be from from on, and less than to (nil: no bound).
func (l *look) visit(at uint32, from, to []byte, level int) {
	l.w.t.Helper()
	if l.spots[at] != nil {
		l.w.t.Fatalf("P9.1: sector %d is two nodes", at)
	}
	s := spotOf(l.w.t, l.w.read(int(at)), level == 1)
	l.spots[at] = s
	l.order = append(l.order, at)
	for k, key := range s.keys {
		if k > 0 && bytes.Compare(s.keys[k-1], key) >= 0 || from != nil && bytes.Compare(key, from) < 0 || to != nil && bytes.Compare(key, to) >= 0 {
			l.w.t.Fatalf("P9.1: key %d of sector %d is % x, from % x, to % x", k, at, key, from, to)
		}
	}
	if s.leaf {
		if l.depth == 0 {
			l.depth = level
		}
		if l.depth != level {
			l.w.t.Fatalf("P9.1: leaves at the depths %d and %d", l.depth, level)
		}
		for k, key := range s.keys {
			l.pairs = append(l.pairs, api.Pair{Key: api.ID(key), Val: api.Val(s.vals[k])})
		}
		return
	}
	for k, kid := range s.kids {
		lo, hi := from, to
		if k > 0 {
			lo = s.keys[k-1]
		}
		if k < len(s.keys) {
			hi = s.keys[k]
		}
		l.visit(kid, lo, hi, level+1)
	}
}

// look goes over the nodes of tree i.
func (w *wood) look(i int) *look {
	w.t.Helper()
	l := &look{w: w, spots: map[uint32]*spot{}}
	if w.roots[i] != 0 {
		l.visit(w.roots[i], nil, nil, 1)
	}
	return l
}

// bound is what 'What follows' says of the depth of a tree of n keys.
func bound(n int) int {
	if n == 0 {
		return 0
	}
	deep := 1
	for by := 5; n/by > 1; by = 7 {
		n /= by
		deep++
	}
	return deep
}

// wantPairs holds the pairs of a look, which rise by their keys, against what must be there.
func (l *look) wantPairs(where string, had value) {
	l.w.t.Helper()
	if len(l.pairs) != len(had) {
		l.w.t.Fatalf("%s: P9.1: a tree has %d pairs, not %d", where, len(l.pairs), len(had))
	}
	for _, p := range l.pairs {
		if v, ok := had[p.Key]; !ok || v != p.Val {
			l.w.t.Fatalf("%s: P9.1: a tree has % x under % x, not % x (%v)", where, p.Val, p.Key, v, ok)
		}
	}
}

// check holds all trees against what must be in them, node by node; and the space against the nodes that there are, beside
// so many other sectors that are allocated.
func (w *wood) check(where string, others int) {
	w.t.Helper()
	nodes := map[uint32]int{}
	for i := range w.roots {
		l := w.look(i)
		l.wantPairs(where, w.had[i])
		for at := range l.spots {
			nodes[at]++
			if on, e := space.Taken(w.x, int(at)); !on || e != api.OK || at < 4 || nodes[at] > 1 {
				w.t.Fatalf("%s: P9.1: sector %d is a node, of %d trees; allocated: %v, error %d", where, at, nodes[at], on, e)
			}
		}
		w.wantNumbers(where, i, l.depth)
	}
	if left := w.left(); left != w.x.Homes()-4-len(nodes)-others {
		w.t.Fatalf("%s: P9.1: %d sectors are left of %d, with %d nodes and %d others", where, left, w.x.Homes(), len(nodes), others)
	}
}

func (w *wood) wantNumbers(where string, i, deep int) {
	w.t.Helper()
	count := len(w.had[i])
	if n, e := tree.Len(w.x, w.roots[i]); n != count || e != api.OK {
		w.t.Fatalf("%s: P9.2: Len: %d, error %d, of %d keys", where, n, e, count)
	}
	if n, e := tree.Depth(w.x, w.roots[i]); n != deep || e != api.OK || n > bound(count) {
		w.t.Fatalf("%s: P9.2: Depth: %d, error %d, of %d levels and %d keys", where, n, e, deep, count)
	}
}

// wantAnswers holds Get of each key, and Scan of all, against what must be in the trees.
func (w *wood) wantAnswers(where string) {
	w.t.Helper()
	for i, root := range w.roots {
		for key, v := range w.had[i] {
			if got, e := tree.Get(w.x, root, key); got != v || e != api.OK {
				w.t.Fatalf("%s: P9.1: Get(% x): % x, error %d, not % x", where, key, got, e, v)
			}
		}
		w.wantScan(where, i, api.ID{}, 1<<40)
	}
}

// wantScan holds Scan against what it must tell.
func (w *wood) wantScan(where string, i int, from api.ID, most int) {
	w.t.Helper()
	var want []api.Pair
	for _, p := range sorted(w.had[i]) {
		if bytes.Compare(p.Key[:], from[:]) >= 0 && len(want) < most {
			want = append(want, p)
		}
	}
	if l, e := tree.Scan(w.x, w.roots[i], from, most); !slices.Equal(l, want) || e != api.OK {
		w.t.Fatalf("%s: P9.2: Scan(% x, %d): %d pairs, error %d, not the %d that it must", where, from, most, len(l), e, len(want))
	}
}
