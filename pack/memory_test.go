package pack_test

import (
	"bytes"
	"fmt"
	"slices"
	"testing"

	"coffer/api"
	"coffer/pack"
)

// withRoom is b with foreign bytes in front of it and in its unused capacity; whole is all of that.
func withRoom(b []byte) (whole, given []byte) {
	whole = bytes.Repeat([]byte{165}, len(b)+200)
	copy(whole[100:], b)
	return whole, whole[100 : 100+len(b)]
}

// scribble writes over all that b has, its unused capacity among it.
func scribble(b []byte) {
	b = b[:cap(b)]
	for i := range b {
		b[i] ^= 255
	}
}

// The data that is handed in is not changed, and may be written over as soon as the call is back.
func TestDataIsWrittenOver(t *testing.T) {
	t.Parallel()
	w := newShed(t, 200)
	for k, n := range []int{0, 1, 100, 466, 467, 978, 3000, longest, longest + 1} {
		for _, but := range []int{-1, 5} {
			whole, given := withRoom(dataOf(k, n))
			before := bytes.Clone(whole)
			if m, _ := w.had.choice(n+head, but, but < 0); n > longest || m < 0 {
				wantError(t, "P0.3", w.x, addBut(keyOf(k), given, but), map[bool]api.Errno{true: api.ErrLong, false: api.ErrFull}[n > longest])
			} else if but < 0 {
				w.add(keyOf(k), given)
			} else {
				w.addBut(keyOf(k), given, but)
			}
			if !bytes.Equal(whole, before) {
				t.Errorf("P0.3: Add of %d bytes changes them", n)
			}
			scribble(whole)
			w.check("P0.3: written over")
			w.wantAnswers("P0.3: written over")
			w.commit()
			w.wantAnswers("P0.3: written over, and committed")
		}
	}
}

// What Get returns may be written over and appended to: neither the pack nor what another Get returned changes.
func TestGetIsWrittenOver(t *testing.T) {
	t.Parallel()
	w := newShed(t, 200)
	w.grow(46, 47, 300, 512, 558, 3000, 4246, 600, 600)
	before := w.sight()
	for p, r := range w.had.records {
		one, e := pack.Get(w.x, p, r.key)
		other, f := pack.Get(w.x, p, r.key)
		if e != api.OK || f != api.OK {
			t.Fatalf("P11.2: Get: errors %d, %d", e, f)
		}
		_ = append(one, dataOf(1, 600)...)
		scribble(one)
		if !bytes.Equal(other, r.data) {
			t.Errorf("P0.3: two calls of Get share memory")
		}
		w.wantSight("P0.3: written over", before)
		w.wantAnswers("P0.3: written over")
	}
}

// What List returns may be written over and appended to: no other List changes.
func TestListIsWrittenOver(t *testing.T) {
	t.Parallel()
	w := newShed(t, 200)
	w.grow(46, 47, 300, 512, 558, 3000, 600, 600, 600, 4000, 50)
	before := w.sight()
	for n := range 2 {
		one, e := pack.List(w.x, n)
		other, f := pack.List(w.x, n)
		if e != api.OK || f != api.OK {
			t.Fatalf("P11.3: List: errors %d, %d", e, f)
		}
		want := slices.Clone(other)
		_ = append(one, api.Framed{At: 5})
		one = one[:cap(one)]
		for i := range one {
			one[i] = api.Framed{At: -1}
		}
		if !slices.Equal(other, want) {
			t.Errorf("P0.3: two calls of List share memory")
		}
	}
	w.wantSight("P0.3: written over", before)
	w.wantAnswers("P0.3: written over")
}

// What a transaction told of a sector may be written over: that is txn's promise, on which packs rely.
func TestSectorsAreWrittenOver(t *testing.T) {
	w := newShed(t, 100)
	w.grow(300, 4000)
	w.add(keyOf(3), dataOf(3, 900))
	for i := range 100 {
		scribble(w.read(i))
	}
	w.check("sectors are written over")
	w.wantAnswers("sectors are written over")
}

// What a call answers does not hang on the capacity of what it is given, nor on calls in between that fail.
func TestNothingElseCounts(t *testing.T) {
	t.Parallel()
	v, w := newShed(t, 100), newShed(t, 100)
	for k, n := range []int{0, 100, 1000, 466, 20, 3000, 2000} {
		_, given := withRoom(dataOf(k, n))
		v.add(keyOf(k), slices.Clip(dataOf(k, n)))
		none := api.Place{Pack: 7, At: 0, Len: 46}
		for _, c := range []call{get(none, keyOf(k)), drop(none), list(7), stat(7)} {
			w.wantFailure("in between", c, api.ErrArg)
		}
		w.wantFailure("in between", add(keyOf(k), make([]byte, longest+1)), api.ErrLong)
		w.wantFailure("in between", addBut(keyOf(k), make([]byte, longest+1), 0), api.ErrLong)
		w.add(keyOf(k), given)
		w.check(fmt.Sprintf("%d bytes", n))
	}
	w.wantSight("P0.5: the same calls", v.sight())
}
