package journal_test

import (
	"testing"

	"coffer/api"
	"coffer/disk"
	"coffer/journal"
)

// wantClosed holds a journal against what a closed one answers. Its numbers are still told, and nothing is written.
func wantClosed(t *testing.T, where string, d *disk.Disk, j *journal.Journal, homes int, turn uint64, free int) {
	t.Helper()
	writes := d.Writes()
	for range 2 {
		for _, i := range []int{-1, 0, 1, 2, homes - 1, homes, 1 << 40} {
			wantNoRead(t, where, j, i, api.ErrDead)
		}
		for _, l := range [][]api.Put{nil, {}, putsOf(1, 0, 1), putsOf(1, 0, 41), {{Sector: -1}}, {{Sector: 1}}} {
			if e := j.Commit(l); e != api.ErrDead {
				t.Errorf("%s: P6.3: Commit on a closed journal: error %d", where, e)
			}
		}
		if e := j.Checkpoint(); e != api.ErrDead {
			t.Errorf("%s: P6.3: Checkpoint on a closed journal: error %d", where, e)
		}
		wantNumbers(t, where, j, homes, turn, free)
	}
	if d.Writes() != writes {
		t.Errorf("%s: a closed journal writes", where)
	}
}

func TestClosedByPower(t *testing.T) {
	for _, times := range []int{1, 2, 5} {
		d, j := committed(t, 64, 16, putsOf(1, 0, 2))
		k, _ := journal.Open(d)
		for range times {
			d.Power(nil)
		}
		wantClosed(t, "closed by Power", d, j, 46, 1, 13)
		wantClosed(t, "closed by Power", d, k, 46, 1, 16)
		again, e := journal.Open(d)
		if e != api.OK {
			t.Fatalf("P6.2: Open: error %d", e)
		}
		wantRead(t, "opened anew", again, 1, putsOf(1, 0, 2)[1].Data)
		wantClosed(t, "closed by Power, and another one is open", d, j, 46, 1, 13)
	}
}

// The Lives count that the disk had at Open, not those from the beginning.
func TestOpenedInALaterLife(t *testing.T) {
	b := newBench(t, 64, 16)
	for k := range 4 {
		b.power(k%2 == 0)
		elder := b.j
		b.open(api.OK)
		wantNoRead(t, "the elder journal", elder, 0, api.ErrDead)
		b.commit(putsOf(k, 0, 3), api.OK)
	}
}

// failing are calls on a journal whose first three home sectors are in the ring, and that the disk returns an error to.
func failing() map[string]func(j *journal.Journal) api.Errno {
	return map[string]func(j *journal.Journal) api.Errno{
		"Commit":                     func(j *journal.Journal) api.Errno { return j.Commit(putsOf(2, 0, 1)) },
		"Commit, a checkpoint first": func(j *journal.Journal) api.Errno { return j.Commit(putsOf(2, 0, 15)) },
		"Checkpoint":                 func(j *journal.Journal) api.Errno { return j.Checkpoint() },
	}
}

// The power fails at each operation of a call: the journal is closed, and its numbers are those from before, or from behind a checkpoint that was done.
func TestClosedByAnError(t *testing.T) {
	for name, call := range failing() {
		for stop := range 40 {
			d, j := committed(t, 64, 16, putsOf(1, 0, 3))
			writes := d.Writes()
			d.Arm(stop, 100)
			e := call(j)
			if !d.Dead() {
				if e != api.OK || stop < 5 {
					t.Errorf("%s: error %d with the power on", name, e)
				}
				break
			}
			if e != api.ErrDead {
				t.Errorf("%s, the power fails behind %d operations: error %d", name, stop, e)
			}
			free := 12
			if name == "Commit, a checkpoint first" && stop >= 6 {
				free = 16
			}
			wantClosed(t, name, d, j, 46, 1, free)
			d.Power(nil)
			wantClosed(t, name+", and the power is back", d, j, 46, 1, free)
			if d.Writes()-writes > stop {
				t.Errorf("%s: %d writes behind %d operations", name, d.Writes()-writes, stop)
			}
		}
	}
}

// The power is turned off beside the journal. It isn't closed as long as it has asked nothing of the disk.
func TestClosedByRead(t *testing.T) {
	d, j := committed(t, 64, 16, putsOf(1, 0, 3))
	d.Arm(0, 0)
	d.Flush()
	if j.Commit(nil) != api.OK || j.Commit(putsOf(1, 46, 1)) != api.ErrArg || j.Commit(putsOf(1, 0, 16)) != api.ErrLong {
		t.Errorf("P6.2: a journal that asked nothing of its disk is closed")
	}
	for i, x := range putsOf(1, 0, 3) {
		wantRead(t, "without power, but in the ring", j, i, x.Data)
	}
	wantNoRead(t, "without power", j, 46, api.ErrArg)
	wantRead(t, "without power, but in the ring", j, 2, putsOf(1, 0, 3)[2].Data)
	wantNoRead(t, "without power, and at home", j, 3, api.ErrDead)
	wantClosed(t, "closed by Read", d, j, 46, 1, 12)
}

func TestClosedWithoutPower(t *testing.T) {
	for name, call := range failing() {
		d, j := committed(t, 64, 16, putsOf(1, 0, 3))
		d.Arm(0, 0)
		d.Flush()
		if e := call(j); e != api.ErrDead {
			t.Errorf("%s without power: error %d", name, e)
		}
		wantClosed(t, name, d, j, 46, 1, 12)
	}
	d, j := committed(t, 64, 16)
	d.Arm(0, 0)
	d.Flush()
	if e := j.Checkpoint(); e != api.OK {
		t.Errorf("P6.3: Checkpoint of nothing, without power: error %d", e)
	}
	wantNoRead(t, "without power", j, 0, api.ErrDead)
	wantClosed(t, "closed by Read", d, j, 46, 0, 16)
}

// An error that isn't the disk's closes nothing.
func TestRefusalsCloseNothing(t *testing.T) {
	b := newBench(t, 64, 16)
	for k := range 5 {
		b.commit(putsOf(k, 46, 1), api.ErrArg)
		b.commit([]api.Put{{Sector: 1}}, api.ErrSize)
		b.commit(putsOf(k, 0, 16), api.ErrLong)
		wantNoRead(t, "no such home", b.j, 46, api.ErrArg)
		b.commit(putsOf(k, k, 5), api.OK)
	}
	b.checkpoint(api.OK)
}
