package pack_test

import (
	"fmt"
	"slices"
	"testing"

	"coffer/api"
	"coffer/pack"
)

// Frames in their order, those that were dropped among them.
func TestList(t *testing.T) {
	t.Parallel()
	w := newShed(t, 100)
	l := w.grow(46, 512, 466, 4096, 1000, 47, 3000, 4246)
	want := []api.Framed{{Key: keyOf(0), At: 0, Len: 46}, {Key: keyOf(1), At: 46, Len: 512}, {Key: keyOf(2), At: 558, Len: 466}, {Key: keyOf(3), At: 1024, Len: 4096}, {Key: keyOf(4), At: 5120, Len: 1000}, {Key: keyOf(5), At: 6120, Len: 47}}
	other := []api.Framed{{Key: keyOf(6), At: 0, Len: 3000}, {Key: keyOf(7), At: 3000, Len: 4246}}
	for _, p := range append([]api.Place{{Pack: 0, At: 0, Len: 46}}, l[1:5]...) {
		one, e := pack.List(w.x, 0)
		two, f := pack.List(w.x, 1)
		if !slices.Equal(one, want) || !slices.Equal(two, other) || e != api.OK || f != api.OK {
			t.Errorf("P11.3: List: %v, error %d; %v, error %d", one, e, two, f)
		}
		w.drop(p)
		w.check("List")
		w.wantAnswers("List")
	}
	w.add(keyOf(8), dataOf(8, 1900))
	w.wantAnswers("List, a frame more")
	w.drop(l[5])
	w.drop(api.Place{Pack: 0, At: 6167, Len: 1946})
	w.wantAnswers("List, a pack less")
}

// Bytes in use that are no sequence of frames: one of them turned, or the number of them another one.
func TestListOfRot(t *testing.T) {
	t.Parallel()
	w := newShed(t, 100)
	w.grow(46, 150, 500, 50)
	for at := range 746 {
		for _, by := range []byte{1, 128} {
			w.turn(4, at, by)
			wantError(t, fmt.Sprintf("byte %d turned", at), w.x, list(0), api.ErrRot)
			w.turn(4, at, by)
		}
	}
	w.wantAnswers("turned back")
	whole, _ := pack.List(w.x, 0)
	for used := 1; used <= 1000; used++ {
		w.setEntry(0, 4, used, 46)
		fits := slices.Index([]int{46, 196, 696, 746}, used)
		if fits < 0 {
			wantError(t, fmt.Sprintf("%d bytes in use", used), w.x, list(0), api.ErrRot)
			continue
		}
		if l, e := pack.List(w.x, 0); e != api.OK || !slices.Equal(l, whole[:fits+1]) {
			t.Errorf("P11.3: List of %d bytes in use: %v, error %d", used, l, e)
		}
	}
}

// Each way in which a frame cannot be is ErrRot for List, as the last frame or with another one behind it.
func TestListOfNoFrames(t *testing.T) {
	t.Parallel()
	good := plainFrame(keyOf(1), dataOf(1, 100))
	turned := func(at int, b ...byte) []byte {
		c := slices.Clone(good)
		copy(c[at:], b)
		return c
	}
	for name, bad := range map[string][]byte{
		"zeros":               make([]byte, 46),
		"a byte":              {199},
		"45 bytes":            good[:45],
		"the head of a frame": good[:46],
		"all but the last":    good[:145],
		"another first byte":  turned(0, 198),
		"another second byte": turned(1, 71),
		"4,201 bytes":         turned(2, 0, 0, 16, 105),
		"4,200 bytes":         turned(2, 0, 0, 16, 104),
		"a great length":      turned(2, 255, 255, 255, 255),
		"a byte less":         turned(5, 99),
		"another hash":        turned(6, good[6]^1),
		"another key":         turned(14, good[14]^1),
		"other data":          turned(145, good[145]^1),
		"a frame of 4,201":    plainFrame(keyOf(1), dataOf(1, longest+1)),
	} {
		for _, l := range [][][]byte{{bad}, {good, bad}, {bad, good}, {good, bad, good}} {
			w := newShed(t, 100)
			w.lay(3, 40, slices.Concat(l...))
			w.wantFailure(name, list(3), api.ErrRot)
			wantError(t, name, w.x, list(2), api.ErrArg)
		}
	}
	w := newShed(t, 100)
	w.lay(3, 40, slices.Concat(good, good))
	if l, e := pack.List(w.x, 3); len(l) != 2 || e != api.OK {
		t.Errorf("P11.3: List of two frames: %v, error %d", l, e)
	}
}

// The bytes behind those in use are not looked at: frames, halves of them, or anything.
func TestListEndsWithTheBytesInUse(t *testing.T) {
	t.Parallel()
	good := plainFrame(keyOf(1), dataOf(1, 100))
	for _, behind := range [][]byte{good, good[:46], {199, 70}, {255}, make([]byte, 46)} {
		w := newShed(t, 100)
		b := slices.Concat(good, good, behind)
		w.lay(3, 40, b)
		w.setEntry(3, 40, 292, 146)
		if l, e := pack.List(w.x, 3); len(l) != 2 || e != api.OK {
			t.Errorf("P11.3: List of two frames: %v, error %d", l, e)
		}
		wantError(t, "behind the bytes in use", w.x, get(api.Place{Pack: 3, At: 292, Len: 146}, keyOf(1)), api.ErrArg)
		if p, e := pack.Add(w.x, keyOf(2), dataOf(2, 50)); p != (api.Place{Pack: 3, At: 292, Len: 96}) || e != api.OK {
			t.Errorf("P11.1: Add behind two frames: %v, error %d", p, e)
		}
		w.wantEntry("Add behind two frames", 3, 0, 0, 0, 40, 0, 0, 1, 132, 0, 0, 0, 242, 0, 0, 0, 0)
		if l, e := pack.List(w.x, 3); len(l) != 3 || l[2] != (api.Framed{Key: keyOf(2), At: 292, Len: 96}) || e != api.OK {
			t.Errorf("P11.3: List of three frames: %v, error %d", l, e)
		}
	}
}
