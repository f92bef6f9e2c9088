package pack_test

import (
	"fmt"
	"testing"

	"coffer/api"
	"coffer/pack"
	"coffer/space"
)

// Frames are dropped in every order: with the last one the pack is gone, its sectors are free, and not before.
func TestDropInEveryOrder(t *testing.T) {
	t.Parallel()
	for _, order := range [][]int{{0, 1, 2, 3}, {3, 2, 1, 0}, {1, 3, 0, 2}, {2, 0, 3, 1}, {0, 3, 1, 2}} {
		w := newShed(t, 100)
		l := w.grow(46, 1000, 3000, 47)
		left := w.left()
		for k, n := range order {
			w.drop(l[n])
			where := fmt.Sprintf("%d of 4 dropped", k+1)
			w.check(where)
			w.wantAnswers(where)
			want := left
			if k == 3 {
				want += 16
			}
			if got := w.left(); got != want {
				t.Errorf("P11.2: %s: %d sectors are left, not %d", where, got, want)
			}
		}
		for _, p := range l {
			w.wantFailure("a pack that is gone", drop(p), api.ErrArg)
			wantError(t, "a pack that is gone", w.x, get(p, keyOf(0)), api.ErrArg)
		}
		wantError(t, "a pack that is gone", w.x, list(0), api.ErrArg)
		wantError(t, "a pack that is gone", w.x, stat(0), api.ErrArg)
		w.commit()
		w.check("a pack that is gone, and Commit")
	}
}

// The sectors of a pack that is gone are free, all 16 of them and no others, and can be taken by anyone.
func TestSectorsAreReleased(t *testing.T) {
	t.Parallel()
	w := newShed(t, 100)
	l := w.grow(4246, 4246, 4246)
	w.drop(l[1])
	for i := range 100 {
		want := i < 20 || i >= 36 && i < 52
		if on, e := space.Taken(w.x, i); on != want || e != api.OK {
			t.Errorf("P11.2: space.Taken(%d): %v, error %d", i, on, e)
		}
	}
	if i, e := space.Take(w.x, 16); i != 20 || e != api.OK {
		t.Errorf("P11.2: space.Take: %d, error %d", i, e)
	}
}

// A Len of more than the live bytes is ErrArg, of just as many is the end of the pack.
func TestMoreThanIsLive(t *testing.T) {
	t.Parallel()
	for _, live := range []int{46, 47, 100, 1000, 4246} {
		w := newShed(t, 100)
		l := w.grow(3000, live)
		w.drop(l[0])
		w.commit()
		for _, more := range []int{1, 2, 46, 900} {
			for _, at := range []int{0, 1, 3000 - more} {
				if size := live + more; at+size <= 3000+live {
					w.wantFailure("more than is live", drop(api.Place{Pack: 0, At: at, Len: size}), api.ErrArg)
				}
			}
		}
		w.check("more than is live")
		w.wantAnswers("more than is live")
		if at := 2999; live > 46 {
			w.drop(api.Place{Pack: 0, At: at, Len: live - 1})
			w.check("one byte is live")
			w.wantAnswers("one byte is live")
			w.wantFailure("one byte is live", drop(l[1]), api.ErrArg)
			w.wantFailure("one byte is live", drop(api.Place{Pack: 0, At: 0, Len: 46}), api.ErrArg)
			w.abort()
		}
		w.drop(api.Place{Pack: 0, At: 1, Len: live})
		w.check("just what is live")
	}
}

// A part of what is live: so many bytes less live, wherever they are, and all else stays.
func TestAPartOfWhatIsLive(t *testing.T) {
	w := newShed(t, 100)
	w.grow(1000, 2000)
	for _, p := range []api.Place{{Pack: 0, At: 0, Len: 46}, {Pack: 0, At: 5, Len: 100}, {Pack: 0, At: 999, Len: 500}, {Pack: 0, At: 2000, Len: 1000}, {Pack: 0, At: 0, Len: 1308}} {
		w.drop(p)
		w.check("a part of what is live")
		w.wantAnswers("a part of what is live")
	}
	if _, live, e := pack.Stat(w.x, 0); live != 46 || e != api.OK {
		t.Errorf("P11.3: Stat: %d live bytes, error %d", live, e)
	}
	w.wantFailure("46 are live", drop(api.Place{Pack: 0, At: 0, Len: 47}), api.ErrArg)
	w.drop(api.Place{Pack: 0, At: 2954, Len: 46})
	w.check("none is live")
}

// The same place twice: it counts twice, as long as so many bytes are live.
func TestTheSamePlaceTwice(t *testing.T) {
	w := newShed(t, 100)
	l := w.grow(100, 150, 49)
	w.drop(l[0])
	w.drop(l[0])
	w.check("twice")
	w.wantAnswers("twice")
	w.wantFailure("99 bytes are live", drop(l[0]), api.ErrArg)
	w.drop(l[2])
	w.check("twice, and another one")
	w.wantFailure("50 bytes are live", drop(l[0]), api.ErrArg)
	w.wantFailure("50 bytes are live", drop(l[1]), api.ErrArg)
	w.drop(l[2])
	w.check("twice, and another one twice")
	w.wantFailure("one byte is live", drop(l[2]), api.ErrArg)
	w.wantAnswers("one byte is live")
}

// A pack with one frame is gone with it; the same place again is ErrArg, until there is a pack again.
func TestOneFrame(t *testing.T) {
	w := newShed(t, 100)
	for range 3 {
		p := w.add(keyOf(1), dataOf(1, 54))
		w.check("one frame")
		w.drop(p)
		w.check("no frame")
		w.wantFailure("no frame", drop(p), api.ErrArg)
		w.commit()
		w.wantFailure("no frame", drop(p), api.ErrArg)
	}
}
