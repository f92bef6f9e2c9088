package pack_test

import (
	"encoding/binary"
	"fmt"
	"slices"
	"testing"

	"coffer/api"
	"coffer/pack"
)

// wantEntry holds the 16 bytes of a pack against what they must be.
func (w *shed) wantEntry(where string, n int, want ...byte) {
	w.t.Helper()
	at := n * 16
	if got := w.read(2 + at/512)[at%512 : at%512+16]; !slices.Equal(got, want) {
		w.t.Errorf("%s: the entry of pack %d is % x, not % x", where, n, got, want)
	}
}

// An entry, byte by byte, as its pack grows, shrinks and goes.
func TestEntry(t *testing.T) {
	w := newShed(t, 100)
	none := make([]byte, 16)
	for n := range packs {
		w.wantEntry("Format", n, none...)
	}
	one := w.add(keyOf(1), []byte{1})
	w.wantEntry("47 bytes", 0, 0, 0, 0, 4, 0, 0, 0, 47, 0, 0, 0, 47, 0, 0, 0, 0)
	other := w.add(keyOf(2), dataOf(2, 254-46-47))
	w.wantEntry("254 bytes", 0, 0, 0, 0, 4, 0, 0, 0, 254, 0, 0, 0, 254, 0, 0, 0, 0)
	w.add(keyOf(3), nil)
	w.wantEntry("300 bytes", 0, 0, 0, 0, 4, 0, 0, 1, 44, 0, 0, 1, 44, 0, 0, 0, 0)
	w.drop(one)
	w.wantEntry("300 bytes, 47 dropped", 0, 0, 0, 0, 4, 0, 0, 1, 44, 0, 0, 0, 253, 0, 0, 0, 0)
	w.drop(other)
	w.wantEntry("300 bytes, 46 live", 0, 0, 0, 0, 4, 0, 0, 1, 44, 0, 0, 0, 46, 0, 0, 0, 0)
	w.drop(api.Place{Pack: 0, At: 254, Len: 46})
	w.wantEntry("300 bytes, none live", 0, none...)
	w.check("an entry that is gone")
}

// The entries of 64 packs: the first 32 in sector 2, the others in sector 3.
func TestTable(t *testing.T) {
	t.Parallel()
	w := full(t)
	w.check("64 packs")
	w.wantAnswers("64 packs")
	for n, start := range map[int][]byte{0: {0, 4}, 1: {0, 20}, 15: {0, 244}, 16: {1, 4}, 31: {1, 244}, 32: {2, 4}, 33: {2, 20}, 63: {3, 244}} {
		w.wantEntry("64 packs", n, 0, 0, start[0], start[1], 0, 0, 32, 0, 0, 0, 32, 0, 0, 0, 0, 0)
		w.drop(api.Place{Pack: n, At: 0, Len: 4096})
		w.wantEntry("64 packs", n, 0, 0, start[0], start[1], 0, 0, 32, 0, 0, 0, 16, 0, 0, 0, 0, 0)
		w.check(fmt.Sprintf("64 packs, half of pack %d dropped", n))
		w.drop(api.Place{Pack: n, At: 4096, Len: 4096})
		w.wantEntry("64 packs", n, make([]byte, 16)...)
		w.check(fmt.Sprintf("64 packs but %d", n))
		w.abort()
	}
	last := w.read(2)[496:]
	if first := w.read(3)[:16]; last[3] != 244 || first[3] != 4 {
		t.Errorf("Definitions: pack 31 is % x, pack 32 is % x", last, first)
	}
}

// setEntry writes an entry of the table by hand.
func (w *shed) setEntry(n, start, used, live int) {
	w.t.Helper()
	b := w.read(2 + n/32)
	for k, v := range []int{start, used, live, 0} {
		binary.BigEndian.PutUint32(b[n%32*16+4*k:], uint32(v))
	}
	w.write(2+n/32, b)
}

// lay writes a pack by hand, as the Definitions say: its bytes, all of them in use and live, its entry and its bits.
func (w *shed) lay(n, start int, b []byte) {
	w.t.Helper()
	for i := 0; i < len(b); i += 512 {
		s := make([]byte, 512)
		copy(s, b[i:])
		w.write(start+i/512, s)
	}
	w.setEntry(n, start, len(b), len(b))
	bits := w.read(1)
	for i := start; i < start+long; i++ {
		bits[i/8] |= 1 << (i % 8)
		w.ever[i] = true
	}
	w.write(1, bits)
}

// forge lays a pack of frames.
func (w *shed) forge(n, start int, frames ...[]byte) {
	w.t.Helper()
	for _, f := range frames {
		w.had.put(n, start, api.ID(f[14:46]), f[46:])
	}
	w.lay(n, start, slices.Concat(frames...))
}

// Packs that another program wrote: in any order, with gaps, far behind.
func TestForgedTable(t *testing.T) {
	t.Parallel()
	for _, l := range [][3]int{{0, 20, 4}, {31, 300, 32}, {32, 4, 31}, {63, 1000, 0}, {5, 255, 62}, {40, 500, 2}} {
		w := newShed(t, 1100)
		w.forge(l[0], l[1], plainFrame(keyOf(1), dataOf(1, 700)), plainFrame(keyOf(2), nil), plainFrame(keyOf(3), dataOf(3, 1500)))
		where := fmt.Sprintf("pack %d at %d", l[0], l[1])
		w.check(where)
		w.wantAnswers(where)
		places := w.had.places()
		w.drop(places[1])
		w.check(where + ", a frame dropped")
		w.add(keyOf(4), dataOf(4, 600))
		w.add(keyOf(5), dataOf(5, longest))
		w.check(where + ", frames added")
		w.commit()
		w.forge(l[2], 80, plainFrame(keyOf(6), dataOf(6, 3000)))
		w.add(keyOf(7), dataOf(7, 2000))
		w.check(where + ", another one at 80")
		w.addBut(keyOf(8), nil, min(l[0], l[2]))
		w.drop(places[0])
		w.drop(places[2])
		w.check(where + ", frames dropped")
		w.wantAnswers(where + ", frames dropped")
	}
}

// Stat tells what the table tells.
func TestStatOfForgedEntries(t *testing.T) {
	w := newShed(t, 1100)
	for n := range packs {
		for _, c := range [][2]int{{46, 46}, {8192, 46}, {8192, 8192}, {258, 257}, {4660, 772}} {
			w.setEntry(n, 300, c[0], c[1])
			if used, live, e := pack.Stat(w.x, n); used != c[0] || live != c[1] || e != api.OK {
				t.Errorf("P11.3: Stat(%d): %d, %d, error %d, not %v", n, used, live, e, c)
			}
			for other := range packs {
				if other != n {
					wantError(t, "one pack", w.x, stat(other), api.ErrArg)
				}
			}
		}
		w.abort()
	}
}
