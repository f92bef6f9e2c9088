package txn_test

import (
	"testing"

	"coffer/api"
	"coffer/disk"
	"coffer/journal"
	"coffer/txn"
)

// copied is a transaction that wrote n sectors, and a copy of it.
func copied(t *testing.T, n int) (*disk.Disk, *journal.Journal, *txn.Tx, *txn.Tx) {
	t.Helper()
	d, j := opened(t, 200, 64)
	x := begun(t, j, putsOf(1, 3, n)...)
	c := *x
	return d, j, x, &c
}

// A copy of a transaction is another one: neither sees what the other one writes, in sectors of both or in new ones.
func TestACopyGoesItsOwnWay(t *testing.T) {
	for _, n := range []int{0, 1, 7, 30} {
		_, j, x, y := copied(t, n)
		for k, z := range []*txn.Tx{x, y, x, y} {
			wantWrite(t, "of a pair", z, 3, sectorOf(70+k), api.OK)
			wantWrite(t, "of a pair", z, 100+k, sectorOf(80+k), api.OK)
		}
		for k, z := range []*txn.Tx{x, y} {
			wantNumbers(t, "P0.5: of a pair", z, max(n, 1)+2, 134)
			wantRead(t, "P0.5: of a pair", z, 3, sectorOf(72+k))
			wantRead(t, "P0.5: of a pair", z, 100+k, sectorOf(80+k))
			wantRead(t, "P0.5: of a pair", z, 101-k, zeros())
			for i := 1; i < n; i++ {
				wantRead(t, "P0.5: of a pair", z, 3+i, sectorOf(1000+i))
			}
		}
		wantCommit(t, "the copy", y, api.OK)
		wantCommit(t, "behind the copy", x, api.ErrOrder)
		wantHome(t, "the copy's Commit", j, 3, sectorOf(73))
		wantHome(t, "the copy's Commit", j, 100, zeros())
		wantHome(t, "the copy's Commit", j, 103, sectorOf(83))
	}
}

// Whichever of the two is finished, and however, the other one is not.
func TestACopyEndsByItself(t *testing.T) {
	for name, end := range ends() {
		for k := range 2 {
			d, j, x, y := copied(t, 3)
			if k == 1 {
				x, y = y, x
			}
			end(t, d, j, x)
			wantFinished(t, name, x)
			wantNumbers(t, name+" of a copy", y, 3, 134)
			wantRead(t, name+" of a copy", y, 5, sectorOf(1002))
			wantWrite(t, name+" of a copy", y, 6, sectorOf(5), api.OK)
			wantNumbers(t, name+" of a copy", y, 4, 134)
			wantFinished(t, name+", and the copy goes on", x)
		}
	}
}

// A copy that is put back undoes what was written since: contents and numbers are as they were.
func TestACopyUndoes(t *testing.T) {
	for _, n := range []int{0, 1, 37, 40} {
		_, j, x, before := copied(t, n)
		for k := range 50 {
			x.Write(k*2, sectorOf(k))
		}
		if n < 40 && x.Touched() == n {
			t.Errorf("nothing was written")
		}
		*x = *before
		wantNumbers(t, "P0.5: put back", x, n, 134)
		for i := range 134 {
			want := zeros()
			if i >= 3 && i < 3+n {
				want = sectorOf(1000 + i - 3)
			}
			wantRead(t, "P0.5: put back", x, i, want)
		}
		wantCommit(t, "put back", x, api.OK)
		wantHome(t, "put back", j, 2, zeros())
		wantHome(t, "put back", j, 90, zeros())
	}
}
