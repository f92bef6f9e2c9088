package pack_test

import (
	"bytes"
	"fmt"
	"slices"
	"testing"

	"coffer/api"
	"coffer/pack"
)

// A pack is filled to the last of its bytes, and not by one more.
func TestTheLastByte(t *testing.T) {
	t.Parallel()
	for _, left := range []int{46, 47, 48, 100, 255, 256, 511, 512, 513, 600, 1024, 2000, 4096, head + longest - 1, head + longest} {
		first := min(4200, room-left-46)
		second := room - left - first
		for more := -1; more <= 1; more++ {
			size := left + more
			if size < head || size > head+longest {
				continue
			}
			where := fmt.Sprintf("%d bytes are left, a frame of %d", left, size)
			w := newShed(t, 100)
			w.grow(first)
			if second >= head {
				w.add(keyOf(1), dataOf(1, second-head))
			}
			want := api.Place{Pack: 0, At: room - left, Len: size}
			if more > 0 {
				want = api.Place{Pack: 1, At: 0, Len: size}
			}
			if p := w.add(keyOf(2), dataOf(2, size-head)); p != want {
				t.Errorf("P11.1: %s: %v, not %v", where, p, want)
			}
			w.check(where)
			w.wantAnswers(where)
		}
	}
}

// A pack that lacks a byte for the least frame is as good as full.
func TestFewBytesAreLeft(t *testing.T) {
	for left := range 47 {
		w := newShed(t, 100)
		w.grow(4096, 4096-left)
		want := api.Place{Pack: 1, At: 0, Len: 46}
		if left == 46 {
			want = api.Place{Pack: 0, At: 8146, Len: 46}
		}
		if p := w.add(keyOf(2), nil); p != want {
			t.Errorf("P11.1: %d bytes are left: %v, not %v", left, p, want)
		}
		w.check("few bytes are left")
	}
}

// Of the packs with room, neither the fullest nor the emptiest, but the one of the least number takes a frame.
func TestTheLeastNumber(t *testing.T) {
	t.Parallel()
	w := newShed(t, 200)
	for n, left := range []int{100, 1000, 50, 3000, 2000, 200} {
		w.forge(n, 164-16*n, plainFrame(keyOf(n), dataOf(n, longest)), plainFrame(keyOf(n+100), dataOf(n, room-2*head-longest-left)))
		w.commit()
	}
	l := w.had.places()
	for _, c := range []struct{ size, pack int }{{46, 0}, {54, 0}, {46, 1}, {55, 1}, {899, 1}, {50, 2}, {1001, 3}, {1999, 3}, {46, 4}, {1954, 4}, {46, 5}, {155, 6}, {154, 5}, {4246, 6}, {46, 6}} {
		if p := w.add(keyOf(c.size), dataOf(c.size, c.size-head)); p.Pack != c.pack {
			t.Errorf("P11.1: a frame of %d bytes is in pack %d, not %d", c.size, p.Pack, c.pack)
		}
		w.check("the least number")
		w.commit()
	}
	w.wantAnswers("the least number")
	for _, p := range l {
		w.drop(p)
	}
	w.check("the least number")
}

// Dropped frames leave no room: the bytes in use count, not those that are live.
func TestDroppedFramesLeaveNoRoom(t *testing.T) {
	w := newShed(t, 100)
	l := w.grow(4096, 4096-50)
	w.drop(l[0])
	if p := w.add(keyOf(3), dataOf(3, 5)); p.Pack != 1 {
		t.Errorf("P11.1: a frame of 51 bytes is at %v", p)
	}
	if p := w.add(keyOf(4), dataOf(4, 4)); p != (api.Place{Pack: 0, At: 8142, Len: 50}) {
		t.Errorf("P11.1: a frame of 50 bytes is at %v", p)
	}
	w.drop(l[1])
	w.check("dropped frames")
	w.wantAnswers("dropped frames")
}

// A new pack has the least number that no pack has, and the first 16 adjacent free sectors, whichever was deleted.
func TestNumbersOfNewPacks(t *testing.T) {
	t.Parallel()
	w := newShed(t, 300)
	w.grow(slices.Repeat([]int{4246}, 8)...)
	for _, c := range []struct{ gone, back []int }{
		{[]int{0}, []int{0, 8}},
		{[]int{3}, []int{3, 9}},
		{[]int{1, 5}, []int{1, 5, 10}},
		{[]int{6, 2, 4}, []int{2, 4, 6, 11}},
		{[]int{11, 10, 0}, []int{0, 10, 11}},
	} {
		for _, n := range c.gone {
			w.drop(api.Place{Pack: n, At: 0, Len: 4246})
		}
		w.check("packs that are gone")
		w.commit()
		for _, n := range c.back {
			if p := w.add(keyOf(n+50), dataOf(n+50, longest)); p != (api.Place{Pack: n, At: 0, Len: 4246}) {
				t.Errorf("P11.1: %v were gone: %v, not pack %d", c.gone, p, n)
			}
			w.check("packs that are back")
		}
		w.wantAnswers("packs that are back")
		w.commit()
	}
}

// A pack that is there again starts anew, and elsewhere if its old sectors are taken: nothing of the old one is left.
func TestAPackAgain(t *testing.T) {
	t.Parallel()
	w := newShed(t, 300)
	old := w.grow(4246, 4246, 4246)
	w.drop(old[1])
	w.check("pack 1 is gone")
	w.take(25)
	p := w.add(keyOf(7), dataOf(7, longest-5))
	if p != (api.Place{Pack: 1, At: 0, Len: 4241}) || w.had.boxes[1].start != 52 {
		t.Errorf("P11.1: pack 1 again: %v, at %d", p, w.had.boxes[1].start)
	}
	w.check("pack 1 again")
	wantError(t, "pack 1 again", w.x, get(old[1], keyOf(1)), api.ErrArg)
	w.wantAnswers("pack 1 again")
	w.commit()
	w.wantAnswers("pack 1 again")
}

// Data of every length, each byte of which comes back, in one pack after the other.
func TestEveryLength(t *testing.T) {
	t.Parallel()
	w := newShed(t, 200)
	for n := 0; n <= longest; n++ {
		data := dataOf(n, n)
		p := w.add(keyOf(n), data)
		if b, e := pack.Get(w.x, p, keyOf(n)); e != api.OK || !bytes.Equal(b, data) {
			t.Fatalf("P11.2: Get(%v) of %d bytes: %d bytes, error %d", p, n, len(b), e)
		}
		if w.x.Touched() > 20 {
			w.check("every length")
			w.commit()
		}
		for l := w.had.places(); len(w.had.boxes) > 8; l = l[1:] {
			w.drop(l[0])
		}
		if n > 600 && n < longest-10 {
			n += 8
		}
	}
	w.check("every length")
	w.wantAnswers("every length")
}

// Bytes of every kind are data: zeros, 255s, and what looks like frames.
func TestEveryKindOfData(t *testing.T) {
	w := newShed(t, 200)
	inner := plainFrame(keyOf(9), dataOf(9, 100))
	for k, data := range [][]byte{make([]byte, 600), bytes.Repeat([]byte{255}, 600), inner, inner[:100], bytes.Repeat([]byte{199, 70}, 300), bytes.Repeat(inner, 20)} {
		w.add(keyOf(k), data)
		w.add(api.ID(bytes.Repeat([]byte{byte(255 * (k % 2))}, 32)), data)
		w.check("every kind of data")
		w.commit()
	}
	w.wantAnswers("every kind of data")
}

// The same key and data may be added again and again: each time there is another frame.
func TestTheSameAgain(t *testing.T) {
	w := newShed(t, 100)
	var l []api.Place
	for range 40 {
		l = append(l, w.add(keyOf(1), dataOf(1, 400)))
	}
	w.check("the same again")
	for k, p := range l {
		w.wantAnswers("the same again")
		w.drop(p)
		w.check(fmt.Sprintf("the same again, %d dropped", k+1))
	}
}
