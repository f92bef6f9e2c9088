package pack_test

import (
	"fmt"
	"testing"

	"coffer/api"
)

// own writes into the transaction what is there already in each of the sectors but one: those can be read and written
// again whatever becomes of the journal, and however many others are written.
func (w *shed) own(l []int, but int) {
	w.t.Helper()
	for _, i := range l {
		if i != but {
			w.write(i, w.read(i))
		}
	}
}

// contents are what a transaction has in sectors, those left out that it cannot tell.
func (w *shed) contents(l []int) map[int]string {
	m := map[int]string{}
	for _, i := range l {
		if b, e := w.x.Read(i); e == api.OK {
			m[i] = string(b)
		}
	}
	return m
}

// wantHalfway makes a call for which one sector is out of reach. It answers as one that has all of them, or else with the
// error, and then nothing comes of it. It reports which.
func (w *shed) wantHalfway(where string, c call, l []int, twin *shed, e api.Errno) bool {
	w.t.Helper()
	before, touched := w.contents(l), w.x.Touched()
	want, got := c.do(twin.x), c.do(w.x)
	if got.e == e {
		want = answer{words: got.words, zero: true, e: e}
		if w.x.Touched() != touched {
			w.t.Errorf("%s: P0.2: %d sectors are written, not %d", where, w.x.Touched(), touched)
		}
	} else {
		before = twin.contents(l)
	}
	if got != want {
		w.t.Errorf("%s: error %d, %s; not error %d, %s", where, got.e, got.words, want.e, want.words)
	}
	for i, b := range w.contents(l) {
		if had, ok := before[i]; b != had && ok {
			w.t.Errorf("%s: error %d: sector %d is % x.., not % x..", where, got.e, i, b[:72], had[:72])
		}
	}
	return got.e == e
}

// halves are calls on packs 0 and 1 that read and write several sectors.
func halves(l []api.Place) []call {
	return []call{
		add(keyOf(5), nil), add(keyOf(5), dataOf(5, 700)), add(keyOf(5), dataOf(5, 2000)), add(keyOf(5), dataOf(5, longest)),
		addBut(keyOf(5), dataOf(5, 700), 0), addBut(keyOf(5), dataOf(5, 700), 1), addBut(keyOf(5), dataOf(5, longest), 1),
		get(l[0], keyOf(0)), get(l[1], keyOf(1)), get(l[1], keyOf(0)), get(l[2], keyOf(2)),
		drop(l[0]), drop(l[1]), drop(l[2]), drop(api.Place{Pack: 2, At: 0, Len: 46}),
		list(0), list(1), list(2), stat(0), stat(1), stat(2),
	}
}

// A call stops halfway where the journal is closed and it has one sector yet to read, and where the transaction is full and
// it has one sector yet to write, whichever that is.
func TestHalfway(t *testing.T) {
	t.Parallel()
	base := newShed(t, 80)
	places := base.grow(100, 4246, 3830)
	places = append(places, base.add(keyOf(3), dataOf(3, 4000-head)))
	base.drop(places[1])
	base.commit()
	var l []int
	for i := range 36 {
		l = append(l, i)
	}
	places = []api.Place{places[0], places[2], places[3]}
	stops := map[string]int{}
	for _, but := range l {
		for _, c := range halves(places) {
			where := fmt.Sprintf("but sector %d: %s", but, c.name)
			w := base.copy(t)
			w.own(l, but)
			w.d.Power(nil)
			if w.wantHalfway("closed: "+where, c, l, base.copy(t), api.ErrDead) {
				stops["closed"]++
			}
			w = base.copy(t)
			w.own(l, but)
			w.fill(40 - w.x.Touched())
			if w.wantHalfway("full: "+where, c, l, base.copy(t), api.ErrLong) {
				stops["full"]++
			}
		}
	}
	if stops["closed"] < 30 || stops["full"] < 30 {
		t.Errorf("so many calls stopped: %v", stops)
	}
}

// A transaction that has room for fewer sectors than a call writes: ErrLong, and nothing comes of it. With room for just as
// many it is not.
func TestErrLongOfTheTransaction(t *testing.T) {
	t.Parallel()
	base := newShed(t, 130)
	l := base.grow(4246, 3900, 4246)
	written := map[int]int{}
	for _, c := range []call{
		add(keyOf(5), nil), add(keyOf(5), dataOf(5, 1)), add(keyOf(5), dataOf(5, 600)), add(keyOf(5), dataOf(5, 3900)), add(keyOf(5), dataOf(5, longest)),
		addBut(keyOf(5), dataOf(5, 600), 0), drop(l[0]), drop(l[1]), drop(l[2]), drop(api.Place{Pack: 1, At: 4, Len: 800}),
	} {
		w := base.copy(t)
		if got := c.do(w.x); got.e != api.OK {
			t.Fatalf("%s: error %d", c.name, got.e)
		}
		wrote := w.x.Touched()
		written[wrote]++
		for others := 40 - wrote; others <= 40; others++ {
			w := base.copy(t)
			w.fill(others)
			if others > 40-wrote {
				w.wantFailure(fmt.Sprintf("%d others are written", others), c, api.ErrLong)
			} else if got := c.do(w.x); got.e != api.OK || w.x.Touched() != 40 {
				t.Errorf("%d others are written: %s: error %d, %d sectors are written", others, c.name, got.e, w.x.Touched())
			}
		}
	}
	if len(written) < 4 {
		t.Errorf("the calls write so many sectors: %v", written)
	}
}

// Behind an error the transaction goes on, and so do its packs.
func TestGoingOnBehindAnError(t *testing.T) {
	t.Parallel()
	w := newShed(t, 4+3*long)
	for k := range 60 {
		n := k * 997 % (longest + 1)
		if p, _ := w.had.choice(n+head, -1, true); p < 0 {
			w.wantFailure("no room", add(keyOf(k), dataOf(k, n)), api.ErrFull)
			for _, p := range w.had.places()[:2] {
				w.drop(p)
				w.check("no room, and a frame less")
			}
		} else {
			w.add(keyOf(k), dataOf(k, n))
		}
		w.wantFailure("wrong", drop(api.Place{Pack: 3, At: 0, Len: 46}), api.ErrArg)
		w.check("behind an error")
		if w.x.Touched() > 20 {
			w.commit()
		}
	}
	w.wantAnswers("behind an error")
}
