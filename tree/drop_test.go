package tree_test

import (
	"bytes"
	"maps"
	"slices"
	"testing"

	"coffer/api"
)

// A Drop of a key that is not there: ahead of the least, behind the greatest, between any two, and of an empty tree.
func TestDropOfNone(t *testing.T) {
	t.Parallel()
	for _, n := range []int{0, 1, 10, 11, 150, 1100} {
		w := plantWood(t, 1200, 1)
		for _, i := range orders(n + 1)["mixed"] {
			if i < n {
				w.grow(2*i + 1)
			}
		}
		every := 1 + n/40
		for i := 0; i <= n; i += every {
			for _, key := range []api.ID{keyOf(2 * i), aheadOf(2*i + 1), aheadOf(2*i + 2)} {
				w.wantFailure("no such key", drop(key), api.ErrNone)
				w.wantFailure("no such key", get(key), api.ErrNone)
			}
		}
		for _, key := range []api.ID{{}, {0, 200, 0, 6}, {255}, api.ID(bytes.Repeat([]byte{255}, 32)), keyOf(2 * n)} {
			w.wantFailure("no such key", drop(key), api.ErrNone)
			w.wantFailure("no such key", get(key), api.ErrNone)
		}
		if n > 0 {
			w.drop(0, keyOf(1))
			w.wantFailure("a key that was dropped", drop(keyOf(1)), api.ErrNone)
			w.wantFailure("a key that was dropped", get(keyOf(1)), api.ErrNone)
		}
		w.check("no such key", 0)
		w.wantAnswers("no such key")
	}
}

// fork is a node on the way to a key, and which of its children is the next one.
type fork struct {
	*spot
	k int
}

// way is the nodes from the root to the leaf of a key.
func (l *look) way(root uint32, key api.ID) []fork {
	var w []fork
	for at := root; ; {
		s := l.spots[at]
		if s.leaf {
			return append(w, fork{s, 0})
		}
		k := 0
		for k < len(s.keys) && bytes.Compare(s.keys[k], key[:]) <= 0 {
			k++
		}
		w = append(w, fork{s, k})
		at = s.kids[k]
	}
}

// keysAt is how many keys child k has, or 0 if there is no such child.
func (l *look) keysAt(up fork, k int) int {
	if k < 0 || k >= len(up.kids) {
		return 0
	}
	return len(l.spots[up.kids[k]].keys)
}

// kind tells what a node that is left a key short finds at its sides: whether there is a neighbour, and one that can spare a key.
func (l *look) kind(up fork, s fork) (string, bool) {
	least, name := 6, "an inner node: "
	if s.leaf {
		least, name = 5, "a leaf: "
	}
	if len(s.keys) > least {
		return name + "enough", false
	}
	words := map[bool]string{true: "spares", false: "does not"}
	side := func(k int) (string, bool) {
		n := l.keysAt(up, k)
		if n == 0 {
			return "is none", false
		}
		return words[n > least], n > least
	}
	left, one := side(up.k - 1)
	right, other := side(up.k + 1)
	return name + "left " + left + ", right " + right, !one && !other
}

// kinds tells what a Drop of key meets, from the leaf upwards.
func (l *look) kinds(root uint32, key api.ID) []string {
	way := l.way(root, key)
	var kinds []string
	for i := len(way) - 1; i > 0; i-- {
		name, goesOn := l.kind(way[i-1], way[i])
		kinds = append(kinds, name)
		if !goesOn {
			return kinds
		}
	}
	if len(way[0].keys) > 1 {
		return append(kinds, "the root: enough")
	}
	if way[0].leaf {
		return append(kinds, "the root: the last pair")
	}
	return append(kinds, "the root: one child")
}

// allKinds are all that a Drop can meet.
func allKinds() []string {
	l := []string{"the root: enough", "the root: the last pair", "the root: one child"}
	for _, name := range []string{"a leaf: ", "an inner node: "} {
		l = append(l, name+"enough")
		for _, left := range []string{"is none", "does not", "spares"} {
			for _, right := range []string{"is none", "does not", "spares"} {
				if left != "is none" || right != "is none" {
					l = append(l, name+"left "+left+", right "+right)
				}
			}
		}
	}
	return l
}

// rarest is the key whose Drop meets what was met least so far.
func (w *wood) rarest(met map[string]int) api.ID {
	w.t.Helper()
	l := w.look(0)
	best, least := l.pairs[0].Key, 1<<40
	for _, p := range l.pairs {
		for _, kind := range l.kinds(w.roots[0], p.Key) {
			if met[kind] < least {
				best, least = p.Key, met[kind]
			}
		}
	}
	return best
}

// Drops that take a key from either neighbour, that join with either, in leaves and in inner nodes, and that make an end
// of the root: each of them several times.
func TestDropsOfAllKinds(t *testing.T) {
	t.Parallel()
	met := map[string]int{}
	next := numbers(5)
	w := plantWood(t, 1200, 1)
	for round := range 9 {
		w.grow(orders(150 + 70*(round%4))[[]string{"mixed", "rising", "outwards"}[round%3]]...)
		for len(w.had[0]) > 0 {
			key := w.rarest(met)
			if next()%2 == 0 {
				key = sorted(w.had[0])[next()%uint64(len(w.had[0]))].Key
			}
			for _, kind := range w.look(0).kinds(w.roots[0], key) {
				met[kind]++
			}
			w.drop(0, key)
			w.check("drops of all kinds", 0)
			w.commit()
		}
	}
	for _, kind := range allKinds() {
		if met[kind] < 3 {
			t.Errorf("only %d Drops met this: %s", met[kind], kind)
		}
	}
	for _, kind := range slices.Sorted(maps.Keys(met)) {
		if !slices.Contains(allKinds(), kind) {
			t.Errorf("%d Drops met what cannot be: %s", met[kind], kind)
		}
	}
}
