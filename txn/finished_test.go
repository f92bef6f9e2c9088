package txn_test

import (
	"math"
	"testing"

	"coffer/api"
	"coffer/disk"
	"coffer/journal"
	"coffer/txn"
)

// wantFinished holds a transaction against what a finished one answers, whatever else is wrong with a call.
func wantFinished(t *testing.T, where string, x *txn.Tx) {
	t.Helper()
	for range 2 {
		for _, i := range []int{math.MinInt, -1, 0, 1, 3, 133, 134, math.MaxInt} {
			wantNoRead(t, where, x, i, api.ErrNone)
			for _, n := range []int{0, 1, 511, 512, 513} {
				wantWrite(t, where, x, i, dataOf(9, n), api.ErrNone)
			}
			wantWrite(t, where, x, i, nil, api.ErrNone)
		}
		wantNumbers(t, where, x, 0, 0)
		wantCommit(t, where, x, api.ErrNone)
		wantNumbers(t, where, x, 0, 0)
		x.Abort()
	}
}

func TestNoTransaction(t *testing.T) {
	var none *txn.Tx
	wantFinished(t, "a nil transaction", none)
	wantFinished(t, "a zero transaction", &txn.Tx{})
	wantFinished(t, "a zero transaction", new(txn.Tx))
}

// ends are the ways in which a transaction is finished. They take one that did not write home sector 20 on.
func ends() map[string]func(t *testing.T, d *disk.Disk, j *journal.Journal, x *txn.Tx) {
	return map[string]func(t *testing.T, d *disk.Disk, j *journal.Journal, x *txn.Tx){
		"Commit": func(t *testing.T, d *disk.Disk, j *journal.Journal, x *txn.Tx) {
			wantCommit(t, "an end", x, api.OK)
		},
		"Commit behind another one": func(t *testing.T, d *disk.Disk, j *journal.Journal, x *txn.Tx) {
			j.Commit(at(7, 20))
			wantCommit(t, "an end", x, api.ErrOrder)
		},
		"Commit on a closed journal": func(t *testing.T, d *disk.Disk, j *journal.Journal, x *txn.Tx) {
			d.Power(nil)
			wantCommit(t, "an end", x, api.ErrDead)
		},
		"Commit on a journal whose disk has failed": func(t *testing.T, d *disk.Disk, j *journal.Journal, x *txn.Tx) {
			d.Arm(0, 0)
			d.Flush()
			begun(t, j, at(8, 9)...).Commit()
			wantCommit(t, "an end", x, api.ErrDead)
		},
		"Abort": func(t *testing.T, d *disk.Disk, j *journal.Journal, x *txn.Tx) {
			x.Abort()
		},
		"Abort on a closed journal": func(t *testing.T, d *disk.Disk, j *journal.Journal, x *txn.Tx) {
			d.Power(nil)
			x.Abort()
		},
	}
}

// With sectors written and with none, and with the journal open, closed, and one commit on.
func TestFinished(t *testing.T) {
	for name, end := range ends() {
		for _, n := range []int{0, 1, 7, 40} {
			d, j := opened(t, 200, 64)
			x := begun(t, j, putsOf(1, 0, n)...)
			end(t, d, j, x)
			turn, writes := j.Turn(), d.Writes()
			wantFinished(t, name, x)
			if j.Turn() != turn || d.Writes() != writes {
				t.Errorf("%s: a finished transaction writes", name)
			}
			j.Commit(at(2, 5))
			wantFinished(t, name+", and the journal goes on", x)
			d.Power(nil)
			wantFinished(t, name+", and the journal is closed", x)
		}
	}
}

// Commits that the journal refuses for what they are finish, too.
func TestFinishedByRefusals(t *testing.T) {
	for where, c := range refusals(t) {
		x := begun(t, c.j, c.l...)
		wantCommit(t, where, x, c.want)
		wantFinished(t, where, x)
	}
}

// An end of one transaction is none of another.
func TestOnlyOneIsFinished(t *testing.T) {
	for name, end := range ends() {
		d, j := opened(t, 200, 64)
		x, y := begun(t, j, at(1, 3, 4)...), begun(t, j, at(2, 4, 5)...)
		end(t, d, j, x)
		wantFinished(t, name, x)
		wantNumbers(t, name+" of another one", y, 2, 134)
		wantRead(t, name+" of another one", y, 4, sectorOf(2000))
		wantWrite(t, name+" of another one", y, 6, sectorOf(5), api.OK)
		wantRead(t, name+" of another one", y, 6, sectorOf(5))
		wantNumbers(t, name+" of another one", y, 3, 134)
	}
}
