package txn_test

import (
	"testing"

	"coffer/api"
	"coffer/disk"
	"coffer/journal"
	"coffer/txn"
)

func wantNoBegin(t *testing.T, where string, j *journal.Journal, want api.Errno) {
	t.Helper()
	for range 2 {
		if x, e := txn.Begin(j); e != want || x != nil {
			t.Errorf("%s: P7.1: Begin: error %d, not %d; a transaction: %v", where, e, want, x != nil)
		}
	}
}

func TestBeginOnNoJournal(t *testing.T) {
	wantNoBegin(t, "a nil journal", nil, api.ErrArg)
	wantNoBegin(t, "a zero journal", &journal.Journal{}, api.ErrArg)
	wantNoBegin(t, "a zero journal", new(journal.Journal), api.ErrArg)
}

func TestBeginOnAJournalClosedByPower(t *testing.T) {
	for _, times := range []int{1, 2, 5} {
		d, j := opened(t, 64, 16)
		begun(t, j, at(1, 3)...).Commit()
		for range times {
			d.Power(nil)
		}
		wantNoBegin(t, "closed by Power", j, api.ErrDead)
		k := reopened(t, d)
		wantNoBegin(t, "closed by Power, and another one is open", j, api.ErrDead)
		wantRead(t, "opened anew", begin(t, k), 3, sectorOf(1000))
	}
}

// Whatever call it was that the disk returned an error to, and whether the power is back or not.
func TestBeginOnAJournalClosedByAnError(t *testing.T) {
	for name, call := range map[string]func(d *disk.Disk, j *journal.Journal) api.Errno{
		"Commit": func(d *disk.Disk, j *journal.Journal) api.Errno { return j.Commit(at(2, 3)) },
		"Commit of a transaction": func(d *disk.Disk, j *journal.Journal) api.Errno {
			return begun(t, j, at(2, 3)...).Commit()
		},
		"Checkpoint": func(d *disk.Disk, j *journal.Journal) api.Errno { return j.Checkpoint() },
		"Read": func(d *disk.Disk, j *journal.Journal) api.Errno {
			d.Flush()
			_, e := j.Read(20)
			return e
		},
		"Read of a transaction": func(d *disk.Disk, j *journal.Journal) api.Errno {
			x := begin(t, j)
			d.Flush()
			_, e := x.Read(20)
			return e
		},
	} {
		d, j := opened(t, 64, 16)
		j.Commit(at(1, 3))
		d.Arm(0, 0)
		if e := call(d, j); e != api.ErrDead {
			t.Fatalf("%s: error %d", name, e)
		}
		wantNoBegin(t, name, j, api.ErrDead)
		d.Power(nil)
		wantNoBegin(t, name+", and the power is back", j, api.ErrDead)
		begin(t, reopened(t, d))
	}
}

// An error that is not the disk's does not close a journal.
func TestBeginBehindARefusal(t *testing.T) {
	_, j := opened(t, 32, 8)
	wantCommit(t, "a ring of 8", begun(t, j, putsOf(1, 0, 8)...), api.ErrLong)
	x := begun(t, j, putsOf(2, 0, 7)...)
	wantNoRead(t, "no such home", x, 22, api.ErrArg)
	wantCommit(t, "a ring of 8", x, api.OK)
	wantRead(t, "behind refusals", begin(t, j), 6, sectorOf(2006))
}

// Begin asks nothing of the disk: it takes none of the operations that are left, and a journal whose disk has just lost its power is not closed yet.
func TestBeginAsksNothingOfTheDisk(t *testing.T) {
	d, j := opened(t, 64, 16)
	j.Commit(at(1, 3))
	turn, free, writes := j.Turn(), j.Free(), d.Writes()
	d.Arm(0, 0)
	for range 50 {
		begin(t, j)
	}
	if d.Dead() || j.Turn() != turn || j.Free() != free || d.Writes() != writes {
		t.Errorf("P7.1: Begin changes the journal: Turn %d, Free %d, %d writes", j.Turn(), j.Free(), d.Writes()-writes)
	}
	d.Flush()
	x := begin(t, j)
	wantRead(t, "without power, but in the ring", x, 3, sectorOf(1000))
	wantNoRead(t, "without power, and at home", x, 4, api.ErrDead)
	wantNoBegin(t, "closed by Read", j, api.ErrDead)
}

func TestBegunOnesAreEmpty(t *testing.T) {
	for _, c := range []struct{ size, ring int }{{32, 8}, {32, 22}, {64, 16}, {200, 64}, {4096, 1024}, {4096, 8}} {
		_, j := opened(t, c.size, c.ring)
		x := begin(t, j)
		wantNumbers(t, "begun", x, 0, c.size-2-c.ring)
		for _, i := range []int{0, 1, c.size - 3 - c.ring} {
			wantRead(t, "begun", x, i, zeros())
		}
	}
}
