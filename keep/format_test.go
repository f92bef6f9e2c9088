package keep_test

import (
	"bytes"
	"testing"

	"coffer/api"
	"coffer/keep"
	"coffer/space"
)

// wantEmpty holds a store against one that was just made.
func (w *store) wantEmpty(name string) {
	w.t.Helper()
	for k := range 16 {
		if v, e := space.Root(w.x, k); v != 0 || e != api.OK {
			w.t.Errorf("%s: root %d is %d, error %d", name, k, v, e)
		}
	}
	w.had = newShelf()
	for n := range packs {
		w.checkPack(name, n)
	}
	if n := w.left(); n != w.homes-4 {
		w.t.Errorf("%s: %d sectors are free, not %d", name, n, w.homes-4)
	}
	w.wantRecords(name)
	wantError(w.t, name, w.x, get(keyOf(0)), api.ErrNone)
	wantError(w.t, name, w.x, drop(keyOf(0)), api.ErrNone)
}

// A store on a disk that was never used, and on one that has anything in its sectors. Format writes what space.Format does.
func TestFormat(t *testing.T) {
	for _, junk := range []bool{false, true} {
		w := bare(t, 90)
		for i := range 90 {
			if junk {
				w.write(i, sectorOf(i))
				w.rest()
			}
		}
		w.commit()
		before := w.sight()
		if e := keep.Format(w.x); e != api.OK {
			t.Fatalf("P12.1: Format: error %d", e)
		}
		after := w.sight()
		want := [][]byte{make([]byte, 512), append([]byte{15}, make([]byte, 511)...), make([]byte, 512), make([]byte, 512)}
		for i, b := range want {
			// The bits behind the last home sector are nobody's.
			if n := map[bool]int{true: (90 + 7) / 8, false: 512}[i == 1]; !bytes.Equal(after.sectors[i][:n], b[:n]) {
				t.Errorf("P12.1: Format: sector %d is % x..", i, after.sectors[i][:72])
			}
		}
		for i := 4; i < 90; i++ {
			if !bytes.Equal(before.sectors[i], after.sectors[i]) {
				t.Errorf("P12.1: Format changes sector %d", i)
			}
		}
		w.wantEmpty("Format")
		w.commit()
		w.power(nil)
		w.wantEmpty("Format, and a new opening")
	}
}

// What an elder store had is gone behind Format, in the same transaction and behind it; and the new one begins anew.
func TestFormatOfAnElderStore(t *testing.T) {
	for _, commits := range []bool{false, true} {
		w := newStore(t, 150)
		w.grow(100, 4000, 4246, 46, 3000, 4246, 200, 300, 400, 500, 600, 700)
		if e := keep.Format(w.x); e != api.OK {
			t.Fatalf("P12.1: Format: error %d", e)
		}
		if commits {
			w.commit()
		}
		w.wantEmpty("an elder store")
		wantError(t, "an elder store", w.x, get(keyOf(3)), api.ErrNone)
		for k := 1; k < 16; k++ {
			if e := space.SetRoot(w.x, k, otherRoot(k)); e != api.OK {
				t.Fatalf("space.SetRoot: error %d", e)
			}
		}
		w.set(keyOf(3), dataOf(3, 5))
		w.set(keyOf(4), dataOf(4, longest))
		w.checkAll("a store on an elder one")
		w.commit()
		w.power(nil)
		w.checkAll("a store on an elder one, and a new opening")
	}
}

// An aborted Format leaves the elder store as it was.
func TestFormatAborted(t *testing.T) {
	w := newStore(t, 100)
	w.grow(100, 4000, 46)
	before := w.sight()
	if e := keep.Format(w.x); e != api.OK {
		t.Fatalf("P12.1: Format: error %d", e)
	}
	w.abort()
	w.wantSight("P7.2: Abort behind Format", before)
	w.checkAll("an aborted Format")
}

// Format writes four sectors. Where the transaction has no room for them, it writes none.
func TestFormatWithoutRoom(t *testing.T) {
	for others := 34; others <= 40; others++ {
		w := newStore(t, 100)
		w.grow(100, 4000, 46)
		w.fill(others)
		if others > 36 {
			w.wantFailure("a full transaction", format(), api.ErrLong)
			w.checkAll("a Format that failed")
		} else if e := keep.Format(w.x); e != api.OK || w.x.Touched() != others+4 {
			t.Errorf("P12.1: Format behind %d others: error %d, %d sectors are written", others, e, w.x.Touched())
		}
	}
}

// fill writes n sectors that are free.
func (w *store) fill(n int) {
	w.t.Helper()
	for i := range n {
		w.write(w.homes-1-i, sectorOf(i))
	}
}
