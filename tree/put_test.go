package tree_test

import (
	"bytes"
	"slices"
	"testing"

	"coffer/api"
	"coffer/tree"
)

// wantOverwritten puts another value under a key that is there: one sector is written, the one of the leaf, and nothing in it but the value changes.
func wantOverwritten(w *wood, key api.ID, v api.Val) {
	w.t.Helper()
	before, left := w.sight(), w.left()
	root, e := tree.Put(w.x, w.roots[0], key, v)
	if root != w.roots[0] || e != api.OK {
		w.t.Errorf("P9.1: Put of a key that is there: root %d, error %d, not %d", root, e, w.roots[0])
	}
	if w.x.Touched() != 1 || w.left() != left {
		w.t.Errorf("P9.1: Put of a key that is there writes %d sectors; %d are left of %d", w.x.Touched(), w.left(), left)
	}
	w.had[0][key] = v
	for i, b := range before.sectors {
		if at := bytes.Index(b, key[:]); b[0] == 1 && at >= 8 && i > 3 {
			b = slices.Clone(b)
			copy(b[at+32:], v[:])
			before.sectors[i] = b
		}
	}
	before.touched = 1
	w.wantSight("P9.1: Put of a key that is there", before)
	w.check("a key that is there", 0)
	w.wantAnswers("a key that is there")
}

// A Put of each key that is there, in trees of each Depth: with another value, and with the same one.
func TestPutAgain(t *testing.T) {
	t.Parallel()
	for _, n := range []int{1, 10, 11, 40, 150, 1100} {
		w := plantWood(t, 1200, 1)
		w.grow(orders(n)["mixed"]...)
		every := 1 + n/25
		for i := 0; i < n; i += every {
			wantOverwritten(w, keyOf(i), valOf(i+5000))
			w.abort()
			wantOverwritten(w, keyOf(i), valOf(i))
			w.abort()
			wantOverwritten(w, keyOf(i), valOf(i+6000))
			w.commit()
			wantOverwritten(w, keyOf(i), api.Val{})
			w.commit()
		}
		wantOverwritten(w, keyOf(n-1), valOf(7))
	}
}

// Values stand beside their keys, whatever they are: the same ones under all keys, and those that look like keys.
func TestValuesAlike(t *testing.T) {
	w := plantWood(t, 600, 1)
	for k, n := range orders(200)["mixed"] {
		v := api.Val{}
		if k%2 == 0 {
			v = api.Val(bytes.Repeat([]byte{255}, 16))
		}
		if k%3 == 0 {
			key := keyOf(n)
			copy(v[:], key[16:])
		}
		w.put(0, keyOf(n), v)
		w.commit()
		w.check("values alike", 0)
	}
	w.wantAnswers("values alike")
}

// Many Puts and Drops in one transaction, as long as it has room.
func TestManyInOneTransaction(t *testing.T) {
	for name, l := range orders(60) {
		w := plantWood(t, 600, 1)
		for _, n := range l {
			w.put(0, keyOf(n), valOf(n))
			w.check(name, 0)
		}
		for _, n := range l[:50] {
			w.drop(0, keyOf(n))
			w.check(name, 0)
		}
		for _, n := range l[20:40] {
			w.put(0, keyOf(n), valOf(n+1))
			w.check(name, 0)
		}
		w.wantAnswers(name)
		w.commit()
		w.check(name, 0)
		w.power(nil)
		w.check(name, 0)
		w.wantAnswers(name)
	}
}

// Sectors are allocated one by one: a tree grows where no two free ones are adjacent.
func TestNoTwoFreeSectorsAreAdjacent(t *testing.T) {
	t.Parallel()
	w := plantWood(t, 400, 1)
	l := w.leave(0)
	n := 0
	for k, i := range l {
		if k%2 == 1 {
			w.free(i)
			n++
		}
	}
	w.commit()
	others := len(l) - n
	for _, k := range orders(n * 5)["mixed"] {
		w.grow(k)
		w.check("no two adjacent", others)
	}
	w.wantAnswers("no two adjacent")
	for at := range w.look(0).spots {
		if at%2 != 1 {
			t.Errorf("P9.1: sector %d is a node, but was not free", at)
		}
	}
}

// A tree in the last sectors of the greatest disk.
func TestTheLastSectors(t *testing.T) {
	w := plantWood(t, 4096, 1)
	others := len(w.leave(120))
	w.commit()
	for _, n := range orders(500)["mixed"] {
		w.grow(n)
	}
	w.check("the last sectors", others)
	w.wantAnswers("the last sectors")
	for at := range w.look(0).spots {
		if int(at) < w.x.Homes()-120 {
			t.Errorf("P9.1: sector %d is a node, but was not free", at)
		}
	}
	for n := range 500 {
		w.drop(0, keyOf(n))
		w.commit()
	}
	w.check("the last sectors", others)
}

// The sectors that a Drop releases can be had at once, in the same transaction and in the next one.
func TestReleasedSectorsAreFree(t *testing.T) {
	w := plantWood(t, 600, 1)
	w.grow(orders(150)["rising"]...)
	others := len(w.leave(0))
	w.commit()
	for round := range 3 {
		for _, n := range orders(150)["outwards"][:120] {
			w.drop(0, keyOf(n))
			w.check("released", others)
			w.commit()
		}
		for _, n := range orders(150)["outwards"][:120] {
			w.put(0, keyOf(n), valOf(n+round))
			w.check("taken again", others)
			w.commit()
		}
	}
	w.wantAnswers("taken again")
}
