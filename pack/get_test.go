package pack_test

import (
	"fmt"
	"math"
	"slices"
	"testing"

	"coffer/api"
)

// outside are places that are not within the bytes in use of a pack of so many, nor of any one.
func outside(n, used int) []api.Place {
	l := []api.Place{{}, {Pack: n}}
	for _, at := range []int{-1, -46, math.MinInt, used - 45, used - 1, used, used + 1, 8192, 1 << 31, 1 << 32, 1<<32 + 46, 1 << 62, math.MaxInt - 46, math.MaxInt} {
		l = append(l, api.Place{Pack: n, At: at, Len: 46})
	}
	for _, size := range []int{45, 44, 1, 0, -1, -46, math.MinInt, used + 1, 8193, 1 << 31, 1 << 32, 1<<32 + 46, 1 << 62, math.MaxInt - 46, math.MaxInt} {
		l = append(l, api.Place{Pack: n, At: 0, Len: size}, api.Place{Pack: n, At: 46, Len: size})
	}
	for _, v := range []int{-1, math.MinInt, math.MaxInt, 1 << 62} {
		l = append(l, api.Place{Pack: n, At: v, Len: v}, api.Place{Pack: n, At: v, Len: math.MaxInt}, api.Place{Pack: n, At: -v, Len: v})
	}
	for at := range used {
		l = append(l, api.Place{Pack: n, At: at, Len: used - at + 1})
	}
	return l
}

// Get and Drop of a place in no pack, and of one that is not within the bytes in use: ErrArg, and nothing comes of it.
func TestPlacesOutside(t *testing.T) {
	t.Parallel()
	w := newShed(t, 100)
	w.grow(100, 200, 4246, 4246)
	l := append(outside(0, 4546), outside(1, 4246)...)
	for _, n := range append(noPacks(), 2, 3, 31, 32, 62, 63) {
		l = append(l, api.Place{Pack: n, At: 0, Len: 100}, api.Place{Pack: n, At: 0, Len: 46}, api.Place{Pack: n, At: -1, Len: 45})
	}
	before := w.sight()
	for _, p := range l {
		for _, key := range []api.ID{keyOf(0), keyOf(1), {}} {
			wantError(t, "outside", w.x, get(p, key), api.ErrArg)
		}
		wantError(t, "outside", w.x, drop(p), api.ErrArg)
	}
	w.wantSight("P0.2: places outside", before)
	w.check("outside")
	w.wantAnswers("outside")
}

// In a pack of 64 each number is a pack's, and none beyond.
func TestPlacesOf64(t *testing.T) {
	t.Parallel()
	w := full(t)
	for _, n := range append(noPacks(), 64) {
		for _, c := range []call{get(api.Place{Pack: n, At: 0, Len: 4096}, keyOf(0)), drop(api.Place{Pack: n, At: 0, Len: 4096}), list(n), stat(n)} {
			wantError(t, "64 packs", w.x, c, api.ErrArg)
		}
	}
	w.check("64 packs")
}

// A frame that ends at the last byte in use is there, and one more byte is not.
func TestTheLastByteInUse(t *testing.T) {
	w := newShed(t, 100)
	w.grow(100, 200)
	last := api.Place{Pack: 0, At: 100, Len: 200}
	if got := get(last, keyOf(1)).do(w.x); got.e != api.OK || got.words != fmt.Sprint(dataOf(1, 154)) {
		t.Errorf("P11.2: Get of the last frame: error %d, %s", got.e, got.words)
	}
	last.Len++
	wantError(t, "a byte more", w.x, get(last, keyOf(1)), api.ErrArg)
	w.wantFailure("a byte more", drop(last), api.ErrArg)
	last.At--
	wantError(t, "a byte ahead", w.x, get(last, keyOf(1)), api.ErrSyntax)
	whole := api.Place{Pack: 0, At: 0, Len: 300}
	wantError(t, "both frames", w.x, get(whole, keyOf(0)), api.ErrRot)
	w.drop(last)
	w.check("a place that is no frame")
}

// Places at which there is no frame, or another one: what frame.Take answers, or ErrRot, whatever comes first.
func TestGetErrors(t *testing.T) {
	t.Parallel()
	inner := plainFrame(keyOf(9), dataOf(9, 100))
	long := slices.Clone(inner)
	copy(long[2:], []byte{0, 0, 16, 105})
	rot := slices.Clone(inner)
	rot[60] ^= 1
	w := newShed(t, 100)
	w.grow(60)
	outer := w.add(keyOf(1), slices.Concat(inner, long, rot, inner))
	w.add(keyOf(2), dataOf(2, 1000))
	at := outer.At + head
	for _, c := range []struct {
		name    string
		at, len int
		key     api.ID
		e       api.Errno
	}{
		{"a frame", 0, 60, keyOf(0), api.OK},
		{"another key", 0, 60, keyOf(1), api.ErrRot},
		{"a key that differs in its first byte", 0, 60, api.ID{1, 5: 99}, api.ErrRot},
		{"a key that differs in its last byte", 0, 60, keyOf(1 << 16), api.ErrRot},
		{"a byte more than the frame", 0, 61, keyOf(0), api.ErrRot},
		{"two frames", 0, outer.At + outer.Len, keyOf(0), api.ErrRot},
		{"a byte more, and another key", 0, 61, keyOf(1), api.ErrRot},
		{"a byte less", 0, 59, keyOf(0), api.ErrShort},
		{"a byte less, and another key", 0, 59, keyOf(1), api.ErrShort},
		{"the head alone", 0, 46, keyOf(0), api.ErrShort},
		{"a byte behind", 1, 60, keyOf(0), api.ErrSyntax},
		{"a byte behind, the last one the same", 1, 59, keyOf(0), api.ErrSyntax},
		{"a byte behind, and another key", 1, 60, keyOf(1), api.ErrSyntax},
		{"a frame within data", at, 146, keyOf(9), api.OK},
		{"a frame within data, another key", at, 146, keyOf(1), api.ErrRot},
		{"a frame within data, a byte less", at, 145, keyOf(9), api.ErrShort},
		{"4,201 bytes", at + 146, 146, keyOf(9), api.ErrLong},
		{"4,201 bytes, and another key", at + 146, 46, keyOf(1), api.ErrLong},
		{"a byte turned", at + 292, 146, keyOf(9), api.ErrRot},
		{"a byte turned, and a byte less", at + 292, 145, keyOf(9), api.ErrShort},
		{"a frame within data, the last one", at + 438, 146, keyOf(9), api.OK},
		{"a frame within data, and more", at + 438, 147, keyOf(9), api.ErrRot},
		{"no frame", at + 3, 46, keyOf(9), api.ErrSyntax},
	} {
		got := get(api.Place{Pack: 0, At: c.at, Len: c.len}, c.key).do(w.x)
		if got.e != c.e || got.e != api.OK && !got.zero {
			t.Errorf("P11.2: %s: error %d, %s, not error %d", c.name, got.e, got.words, c.e)
		}
		if want := fmt.Sprint(dataOf(9, 100)); c.at > 0 && c.e == api.OK && got.words != want {
			t.Errorf("P11.2: %s: %s, not %s", c.name, got.words, want)
		}
	}
	w.check("Get")
}

// Every byte of a frame counts: ErrRot or what frame.Take answers, and the frames beside it are as they were.
func TestEveryByteTurned(t *testing.T) {
	t.Parallel()
	w := newShed(t, 100)
	l := w.grow(100, 1200, 100)
	for at := l[1].At; at < l[2].At; at++ {
		want := api.ErrRot
		switch at - l[1].At {
		case 0, 1:
			want = api.ErrSyntax
		case 2, 3, 4:
			want = api.ErrLong
		case 5:
			want = api.ErrShort
		}
		w.turn(4, at, 64)
		got := get(l[1], keyOf(1)).do(w.x)
		if got.e != want || !got.zero {
			t.Errorf("P11.2: byte %d turned: error %d, not %d", at, got.e, want)
		}
		for _, k := range []int{0, 2} {
			if got := get(l[k], keyOf(k)).do(w.x); got.e != api.OK || got.words != fmt.Sprint(dataOf(k, 54)) {
				t.Errorf("P11.2: byte %d turned, of another frame: error %d", at, got.e)
			}
		}
		w.turn(4, at, 64)
	}
	w.wantAnswers("turned back")
}

// A frame that was dropped is there as long as its pack is: nothing tells that it was dropped.
func TestGetOfADroppedFrame(t *testing.T) {
	w := newShed(t, 100)
	l := w.grow(100, 1200, 100)
	for k, p := range l {
		w.drop(p)
		w.check("dropped frames")
		w.wantAnswers("dropped frames")
		for _, q := range l[:k+1] {
			if k == len(l)-1 {
				wantError(t, "a pack that is gone", w.x, get(q, keyOf(0)), api.ErrArg)
			}
		}
	}
}
