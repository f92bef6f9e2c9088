package tree_test

import (
	"strconv"
	"testing"

	"coffer/api"
	"coffer/tree"
)

// orders are ways to go through the numbers below n.
func orders(n int) map[string][]int {
	rising, falling, outwards, inwards, mixed := []int{}, []int{}, []int{}, []int{}, []int{}
	for i := range n {
		rising = append(rising, i)
		falling = append(falling, n-1-i)
		outwards = append(outwards, n/2+(i+1)/2*(1-i%2*2))
		inwards = append(inwards, (i+1)/2*(1-i%2*2)+i%2*n)
		mixed = append(mixed, i)
	}
	next := numbers(uint64(n))
	for i := range n {
		k := i + int(next()%uint64(n-i))
		mixed[i], mixed[k] = mixed[k], mixed[i]
	}
	return map[string][]int{"rising": rising, "falling": falling, "outwards": outwards, "inwards": inwards, "mixed": mixed}
}

// The orders are what they are called, and each number is in each of them once.
func TestTheOrders(t *testing.T) {
	for _, n := range []int{2, 10, 11, 600} {
		for name, l := range orders(n) {
			seen := map[int]int{}
			for _, i := range l {
				seen[i]++
			}
			if len(l) != n || len(seen) != n || seen[0] != 1 || seen[n-1] != 1 {
				t.Fatalf("%s of %d: %v", name, n, l)
			}
		}
	}
}

// dropAll drops the numbers in tree 0, to its last key.
func dropAll(w *wood, where string, l []int) {
	w.t.Helper()
	for k, n := range l {
		w.drop(0, keyOf(n))
		w.commit()
		w.check(where, 0)
		if k%50 == 0 {
			w.wantAnswers(where)
		}
	}
	if w.roots[0] != 0 || w.left() != w.x.Homes()-4 {
		w.t.Fatalf("%s: P9.1: root %d behind the last key, %d sectors left", where, w.roots[0], w.left())
	}
}

// depths are how many keys make which Depth, whatever the order in which they are put.
func depths() map[int]int {
	return map[int]int{1: 1, 2: 1, 9: 1, 10: 1, 11: 2, 12: 2, 20: 2, 21: 2, 150: 3, 1100: 4}
}

// grown is a wood with a tree of n keys, which were put in one of the orders, each step held against the Definitions.
func grown(t *testing.T, where string, l []int) *wood {
	t.Helper()
	w := plantWood(t, 1200, 1)
	for k, n := range l {
		w.grow(n)
		w.check(where, 0)
		if k%50 == 0 || k == len(l)-1 {
			w.wantAnswers(where)
		}
	}
	if want := depths()[len(l)]; w.depth() != want {
		t.Errorf("P9.2: Depth of %d keys, %s, is %d, not %d", len(l), where, w.depth(), want)
	}
	return w
}

// As many keys as make each Depth, put in each order, and dropped in each order: behind each step every node is as it must be.
func TestOrders(t *testing.T) {
	for n := range depths() {
		for in, l := range orders(n) {
			if n > 1000 && testing.Short() && in != "mixed" {
				continue
			}
			t.Run(strconv.Itoa(n)+" "+in, func(t *testing.T) {
				t.Parallel()
				w := grown(t, in, l)
				for out, m := range orders(n) {
					// Of the greatest trees, which take their time, one is dropped in all orders, and the others in their own ones.
					if n < 1000 || in == "mixed" || in == out {
						dropAll(w.copy(), "dropped "+out, m)
					}
				}
			})
		}
	}
}

// The chapter's example, in each order: ten keys are one leaf, the eleventh makes an inner node with one key.
func TestExample(t *testing.T) {
	for name, l := range orders(11) {
		w := plantWood(t, 600, 1)
		for k, i := range l {
			w.grow(i)
			if w.depth() != 1+k/10 {
				t.Errorf("the example: Depth of %d keys (%s) is %d", k+1, name, w.depth())
			}
		}
		if b := w.read(int(w.roots[0])); b[0] != 2 || b[1] != 1 {
			t.Errorf("the example: the root is % x", b[:2])
		}
	}
}

// One key, byte by byte.
func TestOneKey(t *testing.T) {
	w := plantWood(t, 600, 1)
	var key api.ID
	var v api.Val
	want := zeros()
	want[0], want[1] = 1, 1
	for i := range key {
		key[i] = byte(i + 200)
		want[8+i] = key[i]
	}
	for i := range v {
		v[i] = byte(i + 100)
		want[40+i] = v[i]
	}
	w.put(0, key, v)
	if got := w.read(4); w.roots[0] != 4 || string(got) != string(want) {
		t.Errorf("P9.1: root %d: % x", w.roots[0], got)
	}
	w.check("one key", 0)
	w.drop(0, key)
	w.check("no key", 0)
	if e, left := w.roots[0], w.left(); e != 0 || left != 466 {
		t.Errorf("P9.1: root %d behind the last key, %d sectors left", e, left)
	}
	w.put(0, key, v)
	if w.roots[0] != 4 {
		t.Errorf("P9.1: root %d, but sector 4 is free again", w.roots[0])
	}
}

// Keys that differ in one byte alone, whichever it is, are in the order of that byte, which has no sign.
func TestKeysThatDifferInOneByte(t *testing.T) {
	t.Parallel()
	for at := range 32 {
		for _, rest := range []byte{0, 127, 128, 255} {
			w := plantWood(t, 300, 1)
			var base api.ID
			for i := range base {
				base[i] = rest
			}
			for k, i := range orders(256)["mixed"] {
				key := base
				key[at] = byte(i)
				w.put(0, key, valOf(i))
				if k%8 == 7 {
					w.commit()
				}
			}
			w.check("one byte", 0)
			l, e := tree.Scan(w.x, w.roots[0], api.ID{}, 256)
			if len(l) != 256 || e != api.OK {
				t.Fatalf("P9.2: Scan: %d pairs, error %d", len(l), e)
			}
			for i, p := range l {
				if p.Key[at] != byte(i) || p.Val != valOf(i) {
					t.Fatalf("P9.2: byte %d of pair %d is %d", at, i, p.Key[at])
				}
			}
			w.wantAnswers("one byte")
		}
	}
}

// An earlier byte outweighs a later one, and the keys of zeros and of 255s are keys like others.
func TestKeysThatDifferInTwoBytes(t *testing.T) {
	w := plantWood(t, 300, 1)
	values := []byte{0, 1, 127, 128, 254, 255}
	n := 0
	for _, ends := range [][2]int{{0, 31}, {0, 1}, {30, 31}, {15, 16}} {
		for _, a := range values {
			for _, b := range values {
				for _, rest := range []byte{0, 255} {
					var key api.ID
					for i := range key {
						key[i] = rest
					}
					key[ends[0]], key[ends[1]] = a, b
					n++
					w.put(0, key, valOf(n))
					w.commit()
					w.check("two bytes", 0)
				}
			}
		}
	}
	w.wantAnswers("two bytes")
	for _, p := range sorted(w.had[0]) {
		w.wantScan("two bytes", 0, p.Key, 3)
	}
}
