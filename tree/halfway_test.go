package tree_test

import (
	"strconv"
	"testing"

	"coffer/api"
	"coffer/space"
)

// own writes into the transaction what is there already in each of the sectors but one: those can be read and written
// again whatever becomes of the journal, and however many others are written.
func (w *wood) own(l []uint32, but uint32) {
	w.t.Helper()
	for _, i := range l {
		if i != but {
			w.write(int(i), w.read(int(i)))
		}
	}
}

// contents are what a transaction has in sectors, those left out that it cannot tell.
func (w *wood) contents(l []uint32) map[uint32]string {
	m := map[uint32]string{}
	for _, i := range l {
		if b, e := w.x.Read(int(i)); e == api.OK {
			m[i] = string(b)
		}
	}
	return m
}

// sectors are those that a call on tree 0 could need: its nodes, the space's, and the next ones that are free.
func (w *wood) sectors() []uint32 {
	w.t.Helper()
	l := append(w.look(0).order, 0, 1)
	most := len(l) + 4
	for i := range w.x.Homes() {
		if on, e := space.Taken(w.x, i); !on && e == api.OK && len(l) < most {
			l = append(l, uint32(i))
		}
	}
	return l
}

// wantHalfway makes a call for which one sector is out of reach. It answers as one that has all of them, or else with
// the error, and then nothing comes of it.
func (w *wood) wantHalfway(where string, c call, l []uint32, twin *wood, but uint32, e api.Errno) bool {
	w.t.Helper()
	before, touched := w.contents(l), w.x.Touched()
	twin.own(l, but)
	want, got := c.do(twin.x, twin.roots[0]), c.do(w.x, w.roots[0])
	if got.e == e && want.e != e {
		want = answer{e: e, words: got.words, zero: true}
		if w.x.Touched() != touched {
			w.t.Errorf("%s: P0.2: %d sectors are written, not %d", where, w.x.Touched(), touched)
		}
	} else {
		before = twin.contents(l)
	}
	if got != want {
		w.t.Errorf("%s: error %d, %s; not error %d, %s", where, got.e, got.words, want.e, want.words)
	}
	for i, b := range w.contents(l) {
		if b != before[i] {
			w.t.Errorf("%s: error %d: sector %d is % x.., not % x..", where, got.e, i, b[:72], before[i][:min(len(before[i]), 72)])
		}
	}
	return got.e == e
}

// calls are calls of all functions about the n-th key and those near it.
func calls(n int) []call {
	return append(all(keyOf(n)), put(aheadOf(n), valOf(n)), scan(aheadOf(n), 12))
}

// small are trees of few nodes, the calls on which split and join leaves and inner nodes.
func small(t *testing.T) map[string]*wood {
	t.Helper()
	m := map[string]*wood{}
	for _, n := range []int{1, 10, 11, 75, 80} {
		for _, order := range []string{"rising", "falling"} {
			w := plantWood(t, 200, 1)
			w.grow(orders(n)[order]...)
			m[strconv.Itoa(n)+" keys, "+order] = w
			if n < 80 {
				continue
			}
			c := w.copy()
			c.drop(0, keyOf(orders(n)[order][0]))
			c.commit()
			m["one less than "+strconv.Itoa(n)+" keys, "+order] = c
		}
	}
	return m
}

// wantStops makes a call for which a sector is out of reach, in both ways, and tells how often it was.
func wantStops(t *testing.T, where string, base, twin *wood, c call, l []uint32, but uint32) int {
	t.Helper()
	stops := 0
	w := base.copy()
	w.t = t
	w.own(l, but)
	w.d.Power(nil)
	if w.wantHalfway("closed: "+where, c, l, twin, but, api.ErrDead) {
		stops++
	}
	twin.abort()
	base.own(l, but)
	base.fill(40 - base.x.Touched())
	if base.wantHalfway("full: "+where, c, l, twin, but, api.ErrLong) {
		stops++
	}
	twin.abort()
	base.abort()
	return stops
}

// A call stops halfway where the journal is closed and it has one sector yet to read, and where the transaction is full
// and it has one sector yet to write, whichever that is.
func TestHalfway(t *testing.T) {
	for name, base := range small(t) {
		t.Run(name, func(t *testing.T) {
			t.Parallel()
			base.t = t
			twin := base.copy()
			l := base.sectors()
			stops := 0
			for n := 0; n < len(base.had[0])+4; n += 1 + len(base.had[0])/9 {
				for _, but := range l {
					for _, c := range calls(n) {
						where := "but sector " + strconv.Itoa(int(but)) + ": " + c.name + " of key " + strconv.Itoa(n)
						stops += wantStops(t, where, base, twin, c, l, but)
					}
				}
				if t.Failed() {
					return
				}
			}
			if stops < 30 {
				t.Errorf("only %d calls stopped", stops)
			}
		})
	}
}
