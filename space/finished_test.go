package space_test

import (
	"slices"
	"testing"

	"coffer/api"
	"coffer/disk"
	"coffer/journal"
	"coffer/txn"
)

// all are calls of all functions, with arguments that are good, and with wrong ones.
func all() []call {
	l := []call{format(), left(), take(1), take(64), free(4, 1), free(4, 64), taken(0), taken(4), root(0), root(15), setRoot(0, 0), setRoot(15, 9)}
	return append(l, wrong()...)
}

// wantFinished holds each function against what it answers on a finished transaction, whatever else is wrong.
func wantFinished(t *testing.T, where string, x *txn.Tx) {
	t.Helper()
	for range 2 {
		for _, c := range all() {
			want(t, where, x, c, 0, api.ErrNone)
		}
	}
}

func TestNoTransaction(t *testing.T) {
	var none *txn.Tx
	wantFinished(t, "a nil transaction", none)
	wantFinished(t, "a zero transaction", &txn.Tx{})
	wantFinished(t, "a zero transaction", new(txn.Tx))
}

// ends are the ways in which a transaction is finished, with what its Commit answers.
func ends() map[string]func(d *disk.Disk, j *journal.Journal, x *txn.Tx) api.Errno {
	return map[string]func(d *disk.Disk, j *journal.Journal, x *txn.Tx) api.Errno{
		"Commit: 0":  func(d *disk.Disk, j *journal.Journal, x *txn.Tx) api.Errno { return x.Commit() },
		"Commit: 10": func(d *disk.Disk, j *journal.Journal, x *txn.Tx) api.Errno { bump(j); return x.Commit() },
		"Commit: 8":  func(d *disk.Disk, j *journal.Journal, x *txn.Tx) api.Errno { d.Power(nil); return x.Commit() },
		"Abort":      func(d *disk.Disk, j *journal.Journal, x *txn.Tx) api.Errno { x.Abort(); return api.OK },
		"Abort, closed": func(d *disk.Disk, j *journal.Journal, x *txn.Tx) api.Errno {
			d.Power(nil)
			x.Abort()
			return api.OK
		},
	}
}

func bump(j *journal.Journal) {
	j.Commit([]api.Put{{Sector: 20, Data: sectorOf(20)}})
}

// With nothing written, or with a space in it; and whatever becomes of the journal behind that.
func TestFinished(t *testing.T) {
	answers := map[string]api.Errno{"Commit: 10": api.ErrOrder, "Commit: 8": api.ErrDead}
	for name, end := range ends() {
		for _, n := range []int{0, 1, 40} {
			d, j := opened(t, 200, 64)
			base := begin(t, j)
			want(t, "before", base, format(), 0, api.OK)
			commit(t, base)
			x := begin(t, j)
			for i := range n {
				write(t, x, 40-i, sectorOf(i))
			}
			if e := end(d, j, x); e != answers[name] {
				t.Fatalf("%s: error %d, not %d", name, e, answers[name])
			}
			turn, writes := j.Turn(), d.Writes()
			wantFinished(t, name, x)
			if j.Turn() != turn || d.Writes() != writes {
				t.Errorf("%s: a finished transaction writes", name)
			}
			bump(j)
			wantFinished(t, name+", and the journal goes on", x)
			d.Power(nil)
			wantFinished(t, name+", and the journal is closed", x)
		}
	}
}

// spaced is a journal with a space of which home sector 4 is allocated, and 5 is not.
func spaced(t *testing.T) (*disk.Disk, *journal.Journal) {
	t.Helper()
	d, j := opened(t, 200, 64)
	x := begin(t, j)
	want(t, "before", x, format(), 0, api.OK)
	want(t, "before", x, take(1), 4, api.OK)
	want(t, "before", x, setRoot(3, 33), 0, api.OK)
	commit(t, x)
	if e := j.Checkpoint(); e != api.OK {
		t.Fatalf("journal.Checkpoint: error %d", e)
	}
	return d, j
}

// closings are the ways in which a journal is closed, or will be when it asks the disk.
func closings() map[string]func(d *disk.Disk, j *journal.Journal) {
	return map[string]func(d *disk.Disk, j *journal.Journal){
		"Power":             func(d *disk.Disk, j *journal.Journal) { d.Power(nil) },
		"Power, two times":  func(d *disk.Disk, j *journal.Journal) { d.Power(nil); d.Power(nil) },
		"a failed Commit":   func(d *disk.Disk, j *journal.Journal) { d.Arm(0, 0); bump(j) },
		"a disk that fails": func(d *disk.Disk, j *journal.Journal) { d.Arm(0, 0); d.Flush() },
	}
}

// A journal that is closed between Begin and the call: ErrDead, also if an argument is wrong; but not of what needs nothing of the journal.
func TestClosed(t *testing.T) {
	for name, shut := range closings() {
		d, j := spaced(t)
		x := begin(t, j)
		shut(d, j)
		for range 2 {
			for _, c := range slices.Concat(all()[1:], asking()[0], asking()[1], changing()[0], changing()[1]) {
				want(t, name, x, c, 0, api.ErrDead)
			}
		}
		if x.Touched() != 0 {
			t.Errorf("%s: P0.2: %d sectors are written", name, x.Touched())
		}
		want(t, name, x, format(), 0, api.OK)
		want(t, name+", behind Format", x, take(2), 4, api.OK)
		want(t, name+", behind Format", x, root(3), 0, api.OK)
		if e := x.Commit(); e != api.ErrDead {
			t.Errorf("%s: txn.Commit: error %d", name, e)
		}
		wantFinished(t, name, x)
	}
}

// Each function needs the sector alone that it is about: what the transaction has written itself does not need the journal.
func TestClosedButWritten(t *testing.T) {
	for name, shut := range closings() {
		for own := range 2 {
			d, j := spaced(t)
			x := begin(t, j)
			b, e := x.Read(own)
			if e != api.OK {
				t.Fatalf("txn.Read(%d): error %d", own, e)
			}
			write(t, x, own, b)
			shut(d, j)
			for _, c := range slices.Concat(asking()[1-own], changing()[1-own]) {
				want(t, name, x, c, 0, api.ErrDead)
			}
			if own == 0 {
				want(t, name, x, root(3), 33, api.OK)
				want(t, name, x, setRoot(16, 1), 0, api.ErrArg)
				want(t, name, x, setRoot(3, 34), 0, api.OK)
				want(t, name, x, root(3), 34, api.OK)
			} else {
				want(t, name, x, left(), 129, api.OK)
				want(t, name, x, free(3, 1), 0, api.ErrArg)
				want(t, name, x, free(4, 1), 0, api.OK)
				want(t, name, x, take(3), 4, api.OK)
				want(t, name, x, taken(6), 1, api.OK)
			}
			if x.Touched() != 1 {
				t.Errorf("%s: %d sectors are written", name, x.Touched())
			}
		}
	}
}

// full is a transaction on a journal of spaced that has written so many sectors behind the space's.
func full(t *testing.T, n int) *txn.Tx {
	t.Helper()
	_, j := spaced(t)
	x := begin(t, j)
	for i := range n {
		write(t, x, 20+i, sectorOf(i))
	}
	return x
}

// A transaction that has written forty other sectors: ErrLong, but only of what is to be written; what is asked is answered, and what is wrong is wrong.
func TestNoRoomInATransaction(t *testing.T) {
	for own := range 2 {
		x := full(t, 40)
		for _, c := range slices.Concat(changing()[0], changing()[1], []call{format(), take(64), setRoot(3, 33)}) {
			wantFailure(t, "forty others", x, c, api.ErrLong)
		}
		for _, c := range wrong() {
			wantFailure(t, "forty others", x, c, api.ErrArg)
		}
		want(t, "forty others", x, left(), 129, api.OK)
		want(t, "forty others", x, taken(4), 1, api.OK)
		want(t, "forty others", x, taken(5), 0, api.OK)
		want(t, "forty others", x, root(3), 33, api.OK)
		y := full(t, 39)
		for range 2 {
			for _, c := range changing()[own] {
				if _, e := c.do(y); e != api.OK {
					t.Errorf("39 others: %s: error %d", c.name, e)
				}
				if y.Touched() != 40 {
					t.Errorf("39 others: %s: %d sectors are written", c.name, y.Touched())
				}
			}
		}
		for _, c := range changing()[1-own] {
			wantFailure(t, "forty, one of them the space's", y, c, api.ErrLong)
		}
	}
}

// No gap is found before there is no room for what would be written.
func TestErrFullBeforeErrLong(t *testing.T) {
	_, j := opened(t, 200, 64)
	x := begin(t, j)
	want(t, "before", x, format(), 0, api.OK)
	want(t, "before", x, take(64), 4, api.OK)
	want(t, "before", x, take(64), 68, api.OK)
	commit(t, x)
	x = begin(t, j)
	for i := range 40 {
		write(t, x, 20+i, sectorOf(i))
	}
	wantFailure(t, "a gap of two, and forty others", x, take(3), api.ErrFull)
	wantFailure(t, "a gap of two, and forty others", x, take(2), api.ErrLong)
	wantFailure(t, "a gap of two, and forty others", x, take(0), api.ErrArg)
}
