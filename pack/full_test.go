package pack_test

import (
	"fmt"
	"testing"

	"coffer/api"
)

// Data of more than 4,200 bytes is ErrLong, whether there would be room or not.
func TestErrLongOfTheData(t *testing.T) {
	t.Parallel()
	sheds := map[string]func() *shed{
		"no pack": func() *shed { return newShed(t, 100) },
		"a pack": func() *shed {
			w := newShed(t, 100)
			w.grow(100)
			return w
		},
		"no 16 sectors": func() *shed { return newShed(t, 19) },
		"64 full packs": func() *shed { return full(t) },
	}
	for name, made := range sheds {
		w := made()
		for _, n := range []int{longest + 1, longest + 2, room - head, room - head + 1, 65536, 1 << 20} {
			w.wantFailure(name, add(keyOf(1), make([]byte, n)), api.ErrLong)
			for _, but := range []int{-1, 0, 1, 63, 64} {
				w.wantFailure(name, addBut(keyOf(1), make([]byte, n), but), api.ErrLong)
			}
		}
		w.check(name)
	}
	w := newShed(t, 100)
	if p := w.add(keyOf(1), dataOf(1, longest)); p.Len != 4246 {
		t.Errorf("P11.1: Add of 4,200 bytes: %v", p)
	}
	w.check("4,200 bytes")
}

// With 64 packs that are full a frame has no room, though there are free sectors; and again as soon as one pack is gone.
func TestErrFullOfPacks(t *testing.T) {
	t.Parallel()
	w := full(t)
	wantFull := func(where string) {
		t.Helper()
		for _, n := range []int{0, 1, 500, longest} {
			w.wantFailure(where, add(keyOf(n), dataOf(n, n)), api.ErrFull)
			w.wantFailure(where, addBut(keyOf(n), dataOf(n, n), n%66-1), api.ErrFull)
		}
		w.check(where)
	}
	if w.left() != 60 {
		t.Fatalf("space.Left: %d", w.left())
	}
	wantFull("64 full packs")
	for _, n := range []int{0, 31, 32, 40, 63} {
		where := fmt.Sprintf("64 full packs, pack %d", n)
		w.drop(api.Place{Pack: n, At: 4096, Len: 4096})
		wantFull(where + " with half of it dropped")
		w.drop(api.Place{Pack: n, At: 0, Len: 4096})
		w.check(where + " is gone")
		w.wantFailure(where+" is gone", addBut(keyOf(1), nil, -1), api.ErrFull)
		w.add(keyOf(1), dataOf(1, longest))
		w.check(where + " is back")
		w.add(keyOf(2), dataOf(2, room-2*head-longest))
		w.check(where + " is back, and full")
		wantFull(where + " is back, and full")
		w.commit()
	}
	w.wantAnswers("64 full packs")
}

// Of 64 packs the last one has room: for so many bytes, and not for one more.
func TestTheLastRoom(t *testing.T) {
	t.Parallel()
	for _, n := range []int{0, 31, 32, 63} {
		for _, left := range []int{46, 47, 300, 3946} {
			w := full(t)
			where := fmt.Sprintf("%d bytes are left in pack %d alone", left, n)
			w.drop(api.Place{Pack: n, At: 0, Len: 4096})
			w.drop(api.Place{Pack: n, At: 4096, Len: 4096})
			w.add(keyOf(1), dataOf(1, longest))
			if rest := room - head - longest - left; rest > 0 {
				w.add(keyOf(2), dataOf(2, rest-head))
			}
			w.commit()
			w.wantFailure(where, add(keyOf(3), dataOf(3, left-head+1)), api.ErrFull)
			w.wantFailure(where, addBut(keyOf(3), dataOf(3, left-head), n), api.ErrFull)
			if p := w.add(keyOf(3), dataOf(3, left-head)); p != (api.Place{Pack: n, At: room - left, Len: left}) {
				t.Errorf("P11.1: %s: %v", where, p)
			}
			w.check(where)
			w.wantFailure(where, add(keyOf(3), nil), api.ErrFull)
		}
	}
}

// hole is a way in which no 16 adjacent sectors of 100 are free, and a sector that mends that by becoming free (0: none
// does).
type hole struct {
	taken []int
	mends int
}

// where are the sectors from 4 to 99 for which is holds.
func where(is func(i int) bool) []int {
	var l []int
	for i := 4; i < 100; i++ {
		if is(i) {
			l = append(l, i)
		}
	}
	return l
}

func holes() map[string]hole {
	return map[string]hole{
		"every other one is free": {where(func(i int) bool { return i%2 == 1 }), 0},
		"15 between the others":   {where(func(i int) bool { return i%16 == 3 }), 51},
		"the first 15":            {where(func(i int) bool { return i >= 19 }), 19},
		"the last 15":             {where(func(i int) bool { return i < 85 }), 84},
		"15, and 15 behind them":  {where(func(i int) bool { return i < 50 || i == 65 || i > 80 }), 65},
		"one":                     {where(func(i int) bool { return i != 30 }), 0},
		"none":                    {where(func(i int) bool { return true }), 0},
	}
}

// Where no 16 adjacent sectors are free no pack is made: the error is space.Take's, and nothing is turned.
func TestErrFullOfSectors(t *testing.T) {
	t.Parallel()
	for name, h := range holes() {
		w := newShed(t, 100)
		w.take(h.taken...)
		w.commit()
		for _, n := range []int{0, 1, longest} {
			w.wantFailure(name, add(keyOf(n), dataOf(n, n)), api.ErrFull)
			w.wantFailure(name, addBut(keyOf(n), dataOf(n, n), 5), api.ErrFull)
		}
		w.check(name)
		if h.mends > 0 {
			name += ", mended"
			w.free(h.mends)
			w.add(keyOf(3), dataOf(3, longest))
			w.check(name)
			w.add(keyOf(4), dataOf(4, room-2*head-longest))
			w.check(name + ", and full")
			w.wantAnswers(name + ", and full")
		}
	}
}

// Where no sectors are free, packs with room take frames still, and one that is gone leaves room for another one.
func TestRoomWithoutSectors(t *testing.T) {
	t.Parallel()
	w := newShed(t, 4+3*long+15)
	w.grow(4246, 4246, 4246)
	for k, c := range []struct{ size, pack int }{{3946, 0}, {3000, 1}, {3946, 2}, {946, 1}} {
		w.wantFailure("no sectors", add(keyOf(1), dataOf(1, longest)), api.ErrFull)
		if p := w.add(keyOf(k), dataOf(k, c.size-head)); p.Pack != c.pack {
			t.Errorf("P11.1: a frame of %d bytes is at %v", c.size, p)
		}
		w.check("no sectors")
		w.commit()
	}
	w.wantFailure("no sectors", add(keyOf(1), nil), api.ErrFull)
	for _, n := range []int{1, 0, 2} {
		for _, p := range w.had.places() {
			if p.Pack == n {
				w.drop(p)
			}
		}
		w.check("a pack is gone")
		w.add(keyOf(9), dataOf(9, longest))
		w.check("a pack is back")
		w.wantFailure("a pack is back", add(keyOf(1), dataOf(1, longest)), api.ErrFull)
	}
	w.wantAnswers("no sectors")
}
