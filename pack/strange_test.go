package pack_test

import (
	"testing"

	"coffer/api"
)

// anywhere are calls of all functions, with places and numbers near and far.
func anywhere(next func() uint64) []call {
	var l []call
	for range 4 {
		n := int(next() % 66)
		for _, c := range []api.Place{{At: int(next() % 9000), Len: 46 + int(next()%200)}, {At: 0, Len: 1 << 31}, {At: 1<<32 - 100, Len: 50}, {At: 1 << 20, Len: 1 << 22}, {At: 0, Len: 8192}} {
			c.Pack = n - 1
			l = append(l, get(c, keyOf(1)), drop(c))
		}
		l = append(l, list(n-1), stat(n-1), add(keyOf(n), dataOf(n, int(next()%4300))), addBut(keyOf(n), dataOf(n, int(next()%4300)), n-1))
	}
	return l
}

// wantEnd makes each call: all that is promised is that it comes back, and that an error comes alone.
func (w *shed) wantEnd(where string, l []call) {
	w.t.Helper()
	for _, c := range l {
		before := w.sight()
		got := c.do(w.x)
		if got.e != api.OK {
			w.wantSight(where+": "+c.name+": P0.2", before)
		}
		if got.e != api.OK && !got.zero {
			w.t.Errorf("%s: %s: P0.2: error %d, and %s", where, c.name, got.e, got.words)
		}
		if w.x.Touched() > 20 {
			w.commit()
		}
	}
}

// strangeNumbers are what may stand in an entry, whether it may be or not.
func strangeNumbers() []int {
	return []int{0, 1, 2, 3, 4, 5, 45, 46, 47, 80, 84, 85, 99, 100, 101, 511, 512, 8000, 8146, 8191, 8192, 8193, 60000, 1<<31 - 1, 1 << 31, 1<<32 - 47, 1<<32 - 1}
}

// Entries that are not valid: packs in the space's own sectors, over the end of the disk, with more bytes than there are.
func TestTablesThatAreNotValid(t *testing.T) {
	t.Parallel()
	l := strangeNumbers()
	rows := 150
	if testing.Short() {
		rows = 20
	}
	for seed := range rows {
		next := numbers(uint64(seed))
		w := newShed(t, 100)
		w.grow(300, 4000)
		for n := range packs {
			if next()%3 > 0 {
				w.setEntry(n, l[next()%uint64(len(l))], l[next()%uint64(len(l))], l[next()%uint64(len(l))])
			}
		}
		if next()%4 == 0 {
			w.write(1, sectorOf(seed))
		}
		w.commit()
		w.wantEnd("a table that is not valid", anywhere(next))
	}
}

// Each number in each field of an entry, the others being good.
func TestEntriesThatAreNotValid(t *testing.T) {
	t.Parallel()
	for k := range 3 {
		for _, v := range strangeNumbers() {
			w := newShed(t, 100)
			w.grow(300, 4000)
			entry := [3]int{4, 4300, 4300}
			entry[k] = v
			w.setEntry(0, entry[0], entry[1], entry[2])
			w.commit()
			for _, n := range []int{0, 100, longest} {
				for _, c := range all(api.Place{Pack: 0, At: n, Len: 300 + n}, keyOf(0)) {
					w.wantEnd("an entry that is not valid", []call{c})
					w.abort()
				}
			}
		}
	}
}

// Sectors with anything in them, and no Format.
func TestStrangeSectors(t *testing.T) {
	t.Parallel()
	for seed := range 40 {
		next := numbers(uint64(seed) + 500)
		w := newShed(t, 60)
		for i := range 60 {
			b := sectorOf(seed*100 + i)
			for k := range b {
				if next()%uint64(1+seed%5) > 0 {
					b[k] = byte(next() % 3)
				}
			}
			w.write(i, b)
			if i%30 == 29 {
				w.commit()
			}
		}
		w.wantEnd("strange sectors", anywhere(next))
	}
}

// An entry that starts at 0 is of no pack, whatever stands behind it; and a pack that is made there starts anew.
func TestAStartOfZero(t *testing.T) {
	w := newShed(t, 100)
	w.setEntry(0, 0, 300, 200)
	w.setEntry(63, 0, 1<<32-1, 1<<32-1)
	for _, n := range []int{0, 1, 63} {
		for _, c := range []call{get(api.Place{Pack: n, At: 0, Len: 46}, keyOf(1)), drop(api.Place{Pack: n, At: 0, Len: 46}), list(n), stat(n)} {
			w.wantFailure("a start of 0", c, api.ErrArg)
		}
	}
	w.wantFailure("a start of 0", addBut(keyOf(1), nil, -1), api.ErrFull)
	w.add(keyOf(1), dataOf(1, 100))
	w.setEntry(63, 0, 0, 0)
	w.check("a pack made at a start of 0")
	w.wantAnswers("a pack made at a start of 0")
}
