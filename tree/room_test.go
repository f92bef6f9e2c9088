package tree_test

import (
	"strconv"
	"testing"

	"coffer/api"
	"coffer/tree"
)

// need is how many sectors a Put of a key that is not there takes: one for each node on the way to its leaf that is full, from the leaf upwards, and one for a root above the root.
func (l *look) need(root uint32, key api.ID) int {
	way := l.way(root, key)
	for i := range way {
		s := way[len(way)-1-i]
		if s.leaf && len(s.keys) < 10 || !s.leaf && len(s.keys) < 13 {
			return i
		}
	}
	return len(way) + 1
}

// crowded are trees with a key that is not there and whose Put takes so many sectors, by the Depth and that number.
func crowded(t *testing.T) map[[2]int]func() (*wood, api.ID) {
	t.Helper()
	m := map[[2]int]func() (*wood, api.ID){}
	for _, name := range []string{"rising", "mixed"} {
		w := plantWood(t, 1200, 1)
		for _, n := range orders(1150)[name] {
			key := keyOf(n)
			if w.roots[0] != 0 {
				kind := [2]int{w.depth(), w.look(0).need(w.roots[0], key)}
				if m[kind] == nil {
					c := w.copy()
					m[kind] = func() (*wood, api.ID) { return c.copy(), key }
				}
			}
			w.grow(n)
		}
	}
	return m
}

// With fewer free sectors than a split takes, in a leaf, in inner nodes and for a new root, a Put is ErrFull, and nothing comes of it; with just as many it is not.
func TestErrFull(t *testing.T) {
	t.Parallel()
	trees := crowded(t)
	for _, kind := range [][2]int{{1, 0}, {1, 2}, {2, 0}, {2, 1}, {2, 3}, {3, 0}, {3, 1}, {3, 2}, {3, 4}, {4, 0}, {4, 1}, {4, 2}} {
		made := trees[kind]
		if made == nil {
			t.Errorf("no tree of Depth %d with a Put that takes %d sectors", kind[0], kind[1])
			continue
		}
		where := "Depth " + strconv.Itoa(kind[0]) + ", a Put that takes " + strconv.Itoa(kind[1])
		for n := range kind[1] + 3 {
			w, key := made()
			others := len(w.leave(n))
			if n < kind[1] {
				w.wantFailure(where+" of "+strconv.Itoa(n), put(key, valOf(1)), api.ErrFull)
			} else {
				w.put(0, key, valOf(1))
				if left := w.left(); left != n-kind[1] {
					t.Errorf("%s of %d: %d are left", where, n, left)
				}
			}
			w.check(where, others)
			w.wantAnswers(where)
		}
	}
}

// An empty tree takes its first sector.
func TestErrFullOfAnEmptyTree(t *testing.T) {
	w := plantWood(t, 600, 1)
	others := len(w.leave(0))
	w.wantFailure("nothing is left", put(keyOf(3), valOf(3)), api.ErrFull)
	w.check("nothing is left", others)
	w.free(77)
	w.put(0, keyOf(3), valOf(3))
	w.check("one was left", others-1)
	if w.roots[0] != 77 {
		t.Errorf("P9.1: root %d", w.roots[0])
	}
}

// Where nothing is free, what needs nothing goes on: Puts of keys that are there, Drops, and Puts where Drops made room.
func TestNothingIsFree(t *testing.T) {
	t.Parallel()
	w := plantWood(t, 600, 1)
	w.grow(orders(200)["rising"]...)
	others := len(w.leave(0))
	w.commit()
	full := 0
	next := numbers(2)
	for k := range 1200 {
		n := int(next() % 500)
		key := keyOf(n)
		_, there := w.had[0][key]
		switch {
		case there && k%4 > 0:
			w.drop(0, key)
		case !there && w.look(0).need(w.roots[0], key) > w.left():
			full++
			w.wantFailure("nothing is free", put(key, valOf(k)), api.ErrFull)
		default:
			w.put(0, key, valOf(k))
		}
		w.check("nothing is free", others)
		if k%3 == 0 {
			w.commit()
		}
	}
	w.wantAnswers("nothing is free")
	if full < 10 {
		t.Errorf("only %d Puts were ErrFull", full)
	}
}

// fill writes n sectors that are no nodes.
func (w *wood) fill(n int) {
	w.t.Helper()
	for i := range n {
		w.write(w.x.Homes()-1-i, sectorOf(i))
	}
}

// A transaction that has room for fewer sectors than a call writes: ErrLong, and nothing comes of it. With room for just as many it is not.
func TestErrLong(t *testing.T) {
	t.Parallel()
	base := plantWood(t, 600, 1)
	base.grow(orders(85)["rising"]...)
	base.drop(0, keyOf(0))
	base.commit()
	written := map[int]int{}
	for n := range 100 {
		key := keyOf(n)
		_, there := base.had[0][key]
		calls := []call{put(key, valOf(n+1))}
		if there {
			calls = append(calls, drop(key), put(aheadOf(n), valOf(n)))
		}
		for _, c := range calls {
			w := base.copy()
			if got := c.do(w.x, w.roots[0]); got.e != api.OK {
				t.Fatalf("P9.1: %s(%d): error %d", c.name, n, got.e)
			}
			wrote := w.x.Touched()
			written[wrote]++
			for others := 40 - wrote; others <= 40; others++ {
				w := base.copy()
				w.fill(others)
				if others > 40-wrote {
					w.wantFailure("no room for "+strconv.Itoa(wrote), c, api.ErrLong)
				} else if got := c.do(w.x, w.roots[0]); got.e != api.OK || w.x.Touched() != 40 {
					t.Errorf("room for %d: %s(%d): error %d, %d sectors are written", wrote, c.name, n, got.e, w.x.Touched())
				}
			}
		}
	}
	if len(written) < 4 {
		t.Errorf("the calls write so many sectors: %v", written)
	}
}

// What only asks needs no room, and neither does what writes sectors that are written already.
func TestFortyAreWritten(t *testing.T) {
	w := plantWood(t, 600, 1)
	w.grow(orders(150)["mixed"]...)
	w.put(0, keyOf(30), valOf(1))
	w.fill(39)
	w.check("forty are written", 0)
	w.wantAnswers("forty are written")
	w.wantScan("forty are written", 0, keyOf(20), 40)
	w.wantFailure("forty are written", get(keyOf(200)), api.ErrNone)
	w.wantFailure("forty are written", drop(keyOf(200)), api.ErrNone)
	w.wantFailure("forty are written", put(keyOf(140), valOf(2)), api.ErrLong)
	w.wantFailure("forty are written", drop(keyOf(140)), api.ErrLong)
	w.put(0, keyOf(30), valOf(2))
	if root, e := tree.Put(w.x, 0, keyOf(1), valOf(1)); root != 0 || e != api.ErrLong {
		t.Errorf("P9.1: Put(0): root %d, error %d", root, e)
	}
	w.check("forty are written", 0)
	w.commit()
	w.wantAnswers("forty were written")
}

// ErrFull and ErrLong leave a transaction in which the tree goes on.
func TestGoingOnBehindAnError(t *testing.T) {
	w := plantWood(t, 600, 1)
	w.grow(orders(100)["rising"]...)
	others := len(w.leave(0))
	for n := 0; n < 100; n += 2 {
		w.put(0, keyOf(n), valOf(n+1))
		for w.look(0).need(w.roots[0], keyOf(1000+n)) > 0 {
			w.wantFailure("on the way", put(keyOf(1000+n), valOf(n)), api.ErrFull)
			w.drop(0, sorted(w.had[0])[len(w.had[0])-1].Key)
		}
		w.put(0, keyOf(1000+n), valOf(n))
		w.check("on the way", others)
		if n%20 == 0 {
			w.commit()
		}
	}
	w.wantAnswers("on the way")
}
