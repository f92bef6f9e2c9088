package pack_test

import (
	"bytes"
	"fmt"
	"testing"

	"coffer/api"
	"coffer/pack"
)

// beside are the offsets at the edges of sectors and a byte beside them, from one number up to another.
func beside(from, to int) []int {
	var l []int
	for edge := 512; edge <= room; edge += 512 {
		for n := edge - 1; n <= edge+1; n++ {
			if n >= from && n <= to {
				l = append(l, n)
			}
		}
	}
	return l
}

// A frame that begins and one that ends at a sector's edge, or a byte beside it, within one sector or over several. What is
// in front of it and behind it stays as it was.
func TestFramesAtEdges(t *testing.T) {
	t.Parallel()
	for _, first := range append(beside(head, 2049), 46, 300, 466, 4096, 4246) {
		for _, end := range append(beside(first+head, min(first+head+longest, room)), first+head) {
			w := newShed(t, 60)
			where := fmt.Sprintf("a frame from %d to %d", first, end)
			w.add(keyOf(1), dataOf(1, first-head))
			if p := w.add(keyOf(2), dataOf(2, end-first-head)); p != (api.Place{Pack: 0, At: first, Len: end - first}) {
				t.Errorf("P11.1: %s: %v", where, p)
			}
			w.check(where)
			w.add(keyOf(3), dataOf(3, 30))
			w.check(where + ", one behind it")
			w.commit()
			w.add(keyOf(4), dataOf(4, 900))
			w.check(where + ", two behind it")
			w.wantAnswers(where)
		}
	}
}

// Frames of 46 bytes, one behind the other, over all edges of a pack.
func TestSmallFrames(t *testing.T) {
	t.Parallel()
	w := newShed(t, 60)
	for k := range 2 * room / head {
		w.add(keyOf(k), nil)
		w.check(fmt.Sprintf("%d small frames", k+1))
		if k%20 == 0 {
			w.commit()
		}
	}
	w.wantAnswers("small frames")
	if len(w.had.boxes) != 2 {
		t.Errorf("P11.1: small frames are in %d packs", len(w.had.boxes))
	}
}

// Whatever is in the sectors of a pack behind its bytes in use, and in the sectors beside it, frames come and go.
func TestWhatWasThere(t *testing.T) {
	t.Parallel()
	for _, junk := range []byte{1, 199, 255} {
		w := newShed(t, 80)
		for i := 4; i < 40; i++ {
			w.write(i, bytes.Repeat([]byte{junk}, 512))
		}
		w.take(4, 21, 39)
		for i := 5; i < 39; i++ {
			w.ever[i] = true
		}
		w.commit()
		for k, n := range []int{0, 1, 465, 466, 467, 900, 10, 3000, 300, 300, 300, 4200} {
			w.add(keyOf(k), dataOf(k, n))
			w.check("what was there")
		}
		w.wantAnswers("what was there")
		l := w.had.places()
		w.drop(l[3])
		w.drop(l[len(l)-1])
		w.check("what was there, frames dropped")
		w.add(keyOf(20), dataOf(20, 3000))
		w.check("what was there, a pack again")
		w.wantAnswers("what was there, a pack again")
	}
}

// The frames of one pack stay as they are while others go in and out of others that are beside it, before and behind it.
func TestPacksSideBySide(t *testing.T) {
	t.Parallel()
	w := newShed(t, 120)
	w.grow(4096, 4096, 4096, 4096, 4096, 4096, 4096, 4096)
	for n := range 4 {
		w.drop(api.Place{Pack: n, At: 0, Len: 4096})
		w.drop(api.Place{Pack: n, At: 4096, Len: 4096})
		w.check("side by side, one is gone")
		for k, size := range []int{4245, 3900, 47} {
			w.add(keyOf(k+40), dataOf(k+40, size-head))
			w.check("side by side")
		}
		w.wantAnswers("side by side")
		w.commit()
	}
}

// Get of each place in a pack that is full of frames of many lengths.
func TestGetOverEdges(t *testing.T) {
	t.Parallel()
	w := newShed(t, 60)
	for k := 0; len(w.had.boxes) < 3; k++ {
		w.add(keyOf(k), dataOf(k, k*k%700))
		if k%6 == 0 {
			w.commit()
		}
	}
	w.wantAnswers("over edges")
	for p, r := range w.had.records {
		b, e := pack.Get(w.x, p, r.key)
		if e != api.OK || !bytes.Equal(b, r.data) {
			t.Errorf("P11.2: Get(%v): %d bytes, error %d", p, len(b), e)
		}
	}
}
