package pack_test

import (
	"fmt"
	"math"
	"testing"

	"coffer/api"
)

// noPacks are numbers of no pack there can be.
func noPacks() []int {
	return []int{-1, 64, 65, -64, 127, 128, 255, 256, 1 << 31, 1<<31 - 1, 1 << 32, 1<<32 + 1, -1 << 32, 1 << 60, math.MinInt, math.MinInt + 1, math.MaxInt - 1, math.MaxInt}
}

// The pack that is not to be used is left out, and the next one with room is used; any other number leaves out none.
func TestAddBut(t *testing.T) {
	t.Parallel()
	w := newShed(t, 200)
	w.grow(4246, 4246, 4246, 4246)
	for _, c := range []struct{ but, size, pack int }{{0, 100, 1}, {1, 100, 0}, {0, 3846, 1}, {0, 100, 2}, {1, 100, 0}, {2, 3800, 3}, {3, 3846, 2}, {63, 47, 0}, {4, 46, 0}, {0, 54, 3}, {2, 46, 0}} {
		if p := w.addBut(keyOf(c.size), dataOf(c.size, c.size-head), c.but); p.Pack != c.pack {
			t.Errorf("P11.1: AddBut %d of %d bytes: %v, not pack %d", c.but, c.size, p, c.pack)
		}
		w.check(fmt.Sprintf("AddBut %d", c.but))
		w.commit()
	}
	for _, but := range append(noPacks(), 5, 62, 63) {
		if p := w.addBut(keyOf(1), nil, but); p.Pack != 0 {
			t.Errorf("P11.1: AddBut %d: %v, not pack 0", but, p)
		}
		w.check(fmt.Sprintf("AddBut %d", but))
	}
	w.wantAnswers("AddBut")
}

// No pack is made by AddBut: not where there is none, nor where no other one has room.
func TestAddButMakesNoPack(t *testing.T) {
	t.Parallel()
	w := newShed(t, 200)
	for _, but := range append(noPacks(), 0, 1, 63) {
		w.wantFailure("no pack", addBut(keyOf(1), nil, but), api.ErrFull)
		w.wantFailure("no pack", addBut(keyOf(1), dataOf(1, longest), but), api.ErrFull)
	}
	w.check("no pack")
	w.grow(4246, 4246)
	for _, but := range append(noPacks(), 0, 1, 2, 63) {
		w.wantFailure("two packs", addBut(keyOf(1), dataOf(1, longest), but), api.ErrFull)
	}
	w.add(keyOf(3), dataOf(3, 3900))
	w.wantFailure("two packs, one of them full", addBut(keyOf(1), nil, 1), api.ErrFull)
	w.wantFailure("two packs, one of them full", addBut(keyOf(1), dataOf(1, 3901), 0), api.ErrFull)
	w.check("two packs")
	w.addBut(keyOf(4), nil, 0)
	w.check("two packs")
	w.drop(api.Place{Pack: 0, At: 0, Len: 4246})
	w.drop(api.Place{Pack: 0, At: 4246, Len: 3946})
	w.wantFailure("pack 1 alone", addBut(keyOf(1), nil, 1), api.ErrFull)
	w.addBut(keyOf(4), nil, 0)
	w.check("pack 1 alone")
	w.wantAnswers("pack 1 alone")
}

// Of 64 packs only one has room, or two have: with that one left out it is ErrFull, or the other one.
func TestAddButOf64(t *testing.T) {
	t.Parallel()
	base := full(t)
	for _, n := range []int{0, 31, 32, 63} {
		base.drop(api.Place{Pack: n, At: 0, Len: 4096})
		base.drop(api.Place{Pack: n, At: 4096, Len: 4096})
		base.add(keyOf(n), dataOf(n, 1000))
		base.add(keyOf(n), dataOf(n, longest))
		base.commit()
		for _, but := range []int{-1, 0, 1, 30, 31, 32, 33, 62, 63, 64, n} {
			w := base.copy(t)
			for range 2 {
				if m, _ := w.had.choice(2900, but, false); m < 0 {
					w.wantFailure("64 packs", addBut(keyOf(1), dataOf(1, 2900-head), but), api.ErrFull)
				} else {
					w.addBut(keyOf(1), dataOf(1, 2900-head), but)
				}
			}
			w.check("64 packs")
		}
	}
}

// Pack by pack: AddBut fills all but one, Add that one as well.
func TestAddButThenAdd(t *testing.T) {
	t.Parallel()
	for but := range 4 {
		w := newShed(t, 200)
		w.grow(4000, 4246, 4246, 4246)
		for k := 0; ; k++ {
			n, _ := w.had.choice(900, but, false)
			if n < 0 {
				break
			}
			w.addBut(keyOf(k), dataOf(k, 900-head), but)
			w.commit()
		}
		w.wantFailure("all but one", addBut(keyOf(1), dataOf(1, 900-head), but), api.ErrFull)
		if p := w.add(keyOf(1), dataOf(1, 900-head)); p.Pack != but {
			t.Errorf("P11.1: all but pack %d are full: %v", but, p)
		}
		w.check("all but one")
		w.wantAnswers("all but one")
	}
}
