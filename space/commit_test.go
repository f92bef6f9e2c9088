package space_test

import (
	"testing"

	"coffer/api"
	"coffer/txn"
)

// wantSpace holds a transaction against so many free sectors, whether 4 is allocated, and root 3.
func wantSpace(t *testing.T, where string, x *txn.Tx, free, on, three int) {
	t.Helper()
	want(t, where, x, left(), free, api.OK)
	want(t, where, x, taken(4), on, api.OK)
	want(t, where, x, root(3), three, api.OK)
}

// step is calls of one transaction, and what others tell before its Commit: how many sectors are free, whether 4 is allocated, and root 3.
type step struct {
	calls           []call
	free, on, three int
}

// Another transaction sees what one does only behind its Commit, whichever was begun first, and so does the next life of the disk.
func TestCommit(t *testing.T) {
	d, j := opened(t, 200, 64)
	for _, c := range []step{
		{[]call{format()}, 130, 0, 0},
		{[]call{take(1), setRoot(3, 33)}, 130, 0, 0},
		{[]call{free(4, 1), setRoot(3, 34)}, 129, 1, 33},
		{[]call{take(7), setRoot(4, 1)}, 130, 0, 34},
		{nil, 123, 1, 34},
	} {
		elder, x, younger := begin(t, j), begin(t, j), begin(t, j)
		for _, one := range c.calls {
			if _, e := one.do(x); e != api.OK {
				t.Errorf("before Commit: %s: error %d", one.name, e)
			}
		}
		own := sightOf(t, x)
		wantSpace(t, "before Commit, an elder one", elder, c.free, c.on, c.three)
		wantSpace(t, "before Commit, a younger one", younger, c.free, c.on, c.three)
		wantSpace(t, "before Commit, one begun now", begin(t, j), c.free, c.on, c.three)
		commit(t, x)
		own.touched = 0
		wantSight(t, "behind Commit, an elder one", elder, own)
		wantSight(t, "behind Commit, one begun now", begin(t, j), own)
		d.Power(nil)
		j = reopened(t, d)
		wantSight(t, "behind Power", begin(t, j), own)
	}
}

func TestAbort(t *testing.T) {
	d, j := spaced(t)
	before := sightOf(t, begin(t, j))
	for _, c := range [][]call{{format()}, {take(1)}, {take(64), take(64)}, {free(4, 1)}, {setRoot(3, 1), setRoot(15, 2)}, {format(), take(9), setRoot(0, 1), free(5, 2)}} {
		x := begin(t, j)
		for _, one := range c {
			if _, e := one.do(x); e != api.OK {
				t.Errorf("before Abort: %s: error %d", one.name, e)
			}
		}
		x.Abort()
		wantSight(t, "behind Abort", begin(t, j), before)
	}
	x := begin(t, j)
	want(t, "before Power", x, take(5), 5, api.OK)
	d.Power([]bool{true, true, true, true})
	wantSight(t, "behind Power, without Commit", begin(t, reopened(t, d)), before)
}

// Of two that take the same sectors only the first one commits.
func TestSideBySide(t *testing.T) {
	_, j := spaced(t)
	x, y := begin(t, j), begin(t, j)
	want(t, "side by side", x, take(2), 5, api.OK)
	want(t, "side by side", y, take(3), 5, api.OK)
	want(t, "side by side", y, setRoot(0, 9), 0, api.OK)
	commit(t, x)
	if e := y.Commit(); e != api.ErrOrder {
		t.Errorf("side by side: txn.Commit: error %d", e)
	}
	z := begin(t, j)
	wantSpace(t, "side by side", z, 127, 1, 33)
	want(t, "side by side", z, root(0), 0, api.OK)
	want(t, "side by side", z, take(3), 7, api.OK)
}

// Spaces on two disks, and calls with one transaction between calls with another one, have nothing to do with each other.
func TestTwoSpaces(t *testing.T) {
	x, y := formatted(t, 64, 16), formatted(t, 200, 64)
	for k := range 16 {
		want(t, "P0.5: one", x, take(1), 4+k, api.OK)
		want(t, "P0.5: the other", y, take(3), 4+3*k, api.OK)
		want(t, "P0.5: one", x, setRoot(k, uint32(k)), 0, api.OK)
		want(t, "P0.5: the other", y, setRoot(15-k, uint32(k+100)), 0, api.OK)
		wantFailure(t, "P0.5: one", x, free(46, 1), api.ErrArg)
	}
	for k := range 16 {
		want(t, "P0.5: one", x, root(k), k, api.OK)
		want(t, "P0.5: the other", y, root(k), 115-k, api.OK)
	}
	want(t, "P0.5: one", x, left(), 26, api.OK)
	want(t, "P0.5: the other", y, left(), 82, api.OK)
}
