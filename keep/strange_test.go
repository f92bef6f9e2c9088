package keep_test

import (
	"testing"

	"coffer/api"
	"coffer/space"
)

// anywhere are calls of all functions, with keys that there may be.
func anywhere(next func() uint64) []call {
	var l []call
	for range 4 {
		k := int(next() % 12)
		l = append(l, set(keyOf(k), dataOf(k, int(next()%4300))), get(keyOf(k)), compact(), drop(keyOf(k)), scan(keyOf(k), int(next()%20)), length())
	}
	return append(l, scan(api.ID{}, 1<<62))
}

// wantEnd makes each call: all that is promised is that it comes back, and that an error comes alone.
func (w *store) wantEnd(name string, l []call) {
	w.t.Helper()
	for _, c := range l {
		if got := c.do(w.x); got.e != api.OK && !got.zero {
			w.t.Errorf("%s: %s: P0.2: error %d, and %s", name, c.name, got.e, got.words)
		}
		if w.x.Touched() > 15 {
			w.commit()
		}
	}
}

func strangeStore(t *testing.T) *store {
	t.Helper()
	w := newStore(t, 100)
	w.grow(300, 4000, 46, 3000, 100, 200, 300, 400, 500, 600, 700, 800)
	w.losses(1)
	return w
}

// strangeNumbers are what may stand in an entry of the pack table, or in a place, whether it may be or not.
func strangeNumbers() []int {
	return []int{0, 1, 2, 3, 4, 5, 45, 46, 47, 63, 64, 84, 85, 99, 100, 101, 300, 511, 512, 4300, 8146, 8191, 8192, 8193, 60000, 1<<31 - 1, 1 << 31, 1<<32 - 47, 1<<32 - 1}
}

// Entries of the pack table that are not valid.
func TestTablesThatAreNotValid(t *testing.T) {
	t.Parallel()
	l := strangeNumbers()
	pick := func(next func() uint64) int { return l[next()%uint64(len(l))] }
	for seed := range 100 {
		next := numbers(uint64(seed))
		w := strangeStore(t)
		for n := range packs {
			if next()%4 > 0 {
				w.setEntry(n, pick(next), pick(next), pick(next), pick(next))
			}
		}
		w.commit()
		w.wantEnd("a table that is not valid", anywhere(next))
	}
	for k := range 3 {
		for _, v := range l {
			w := strangeStore(t)
			entry := [3]int{4, 4346, 346}
			entry[k] = v
			w.setEntry(0, entry[:]...)
			w.commit()
			w.wantEnd("an entry that is not valid", anywhere(numbers(uint64(v))))
		}
	}
}

// Places in the tree that are of no frame.
func TestPlacesThatAreNotValid(t *testing.T) {
	t.Parallel()
	l := strangeNumbers()
	pick := func(next func() uint64) int { return l[next()%uint64(len(l))] }
	for seed := range 60 {
		next := numbers(uint64(seed) + 900)
		w := strangeStore(t)
		for k := range 12 {
			v := plainVal(api.Place{Pack: pick(next), At: pick(next), Len: pick(next)})
			v[15] = byte(seed % 3)
			w.point(keyOf(k), v)
		}
		w.commit()
		w.wantEnd("places that are not valid", anywhere(next))
	}
}

// Roots of no tree: any sector, and none.
func TestRootsThatAreNotValid(t *testing.T) {
	t.Parallel()
	for seed := range 120 {
		w := strangeStore(t)
		root := uint32(seed)
		if seed > 105 {
			root = 1 << (seed - 90)
		}
		if e := space.SetRoot(w.x, 0, root); e != api.OK {
			t.Fatalf("space.SetRoot: error %d", e)
		}
		w.commit()
		w.wantEnd("a root that is not valid", anywhere(numbers(uint64(seed))))
	}
}

// Sectors with anything in them, and no Format.
func TestStrangeSectors(t *testing.T) {
	t.Parallel()
	for seed := range 60 {
		next := numbers(uint64(seed) + 500)
		w := bare(t, 60)
		for i := range 60 {
			b := sectorOf(seed*100 + i)
			for k := range b {
				if next()%uint64(1+seed%5) > 0 {
					b[k] = byte(next() % 3)
				}
			}
			w.write(i, b)
			if i%30 == 29 {
				w.commit()
			}
		}
		w.wantEnd("strange sectors", anywhere(next))
	}
}

// A store whose sectors were written over in part: a tree that leads round, a table in a leaf's place.
func TestSectorsInOthersPlaces(t *testing.T) {
	t.Parallel()
	for seed := range 200 {
		next := numbers(uint64(seed) + 2000)
		w := strangeStore(t)
		for range 1 + seed%4 {
			w.write(int(next()%40), w.read(int(next()%40)))
		}
		w.commit()
		w.wantEnd("sectors in others' places", anywhere(next))
	}
}
