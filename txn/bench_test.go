package txn_test

import (
	"bytes"
	"maps"
	"slices"
	"testing"

	"coffer/api"
	"coffer/disk"
	"coffer/journal"
	"coffer/txn"
)

// numbers gives a row of numbers that looks random and is the same in every run.
func numbers(seed uint64) func() uint64 {
	seed = seed*0x9e3779b97f4a7c15 + 1
	return func() uint64 {
		seed ^= seed << 13
		seed ^= seed >> 7
		seed ^= seed << 17
		return seed >> 11
	}
}

func dataOf(seed, n int) []byte {
	next := numbers(uint64(seed) + 1)
	b := make([]byte, n)
	for i := range b {
		b[i] = byte(next())
	}
	return b
}

func sectorOf(seed int) []byte { return dataOf(seed, 512) }

func zeros() []byte { return make([]byte, 512) }

// opened is a new disk with a new journal.
func opened(t *testing.T, size, ring int) (*disk.Disk, *journal.Journal) {
	t.Helper()
	d := disk.New(size)
	if e := journal.Format(d, ring); e != api.OK {
		t.Fatalf("journal.Format of %d sectors, a ring of %d: error %d", size, ring, e)
	}
	return d, reopened(t, d)
}

func reopened(t *testing.T, d *disk.Disk) *journal.Journal {
	t.Helper()
	j, e := journal.Open(d)
	if e != api.OK {
		t.Fatalf("journal.Open: error %d", e)
	}
	return j
}

func begin(t *testing.T, j *journal.Journal) *txn.Tx {
	t.Helper()
	x, e := txn.Begin(j)
	if e != api.OK || x == nil {
		t.Fatalf("P7.1: Begin: error %d; a transaction: %v", e, x != nil)
	}
	return x
}

// begun is a transaction that wrote the sectors of l.
func begun(t *testing.T, j *journal.Journal, l ...api.Put) *txn.Tx {
	t.Helper()
	x := begin(t, j)
	for _, p := range l {
		wantWrite(t, "begun", x, p.Sector, p.Data, api.OK)
	}
	return x
}

// putsOf is so many sectors, from home sector first on, with data that is other for each seed.
func putsOf(seed, first, n int) []api.Put {
	var l []api.Put
	for k := range n {
		l = append(l, api.Put{Sector: first + k, Data: sectorOf(seed*1000 + k)})
	}
	return l
}

// at is sectors in the order of the homes.
func at(seed int, homes ...int) []api.Put {
	var l []api.Put
	for k, i := range homes {
		l = append(l, api.Put{Sector: i, Data: sectorOf(seed*1000 + k)})
	}
	return l
}

func wantWrite(t *testing.T, where string, x *txn.Tx, i int, b []byte, want api.Errno) {
	t.Helper()
	if e := x.Write(i, b); e != want {
		t.Errorf("%s: P7.1: Write(%d) of %d bytes: error %d, not %d", where, i, len(b), e, want)
	}
}

func wantRead(t *testing.T, where string, x *txn.Tx, i int, want []byte) {
	t.Helper()
	if b, e := x.Read(i); e != api.OK || !bytes.Equal(b, want) {
		t.Fatalf("%s: P7.1: Read(%d): error %d, %d bytes, not the %d wanted ones", where, i, e, len(b), len(want))
	}
}

func wantNoRead(t *testing.T, where string, x *txn.Tx, i int, want api.Errno) {
	t.Helper()
	if b, e := x.Read(i); e != want || len(b) != 0 {
		t.Errorf("%s: P7.1: Read(%d): error %d, not %d; %d bytes", where, i, e, want, len(b))
	}
}

func wantNumbers(t *testing.T, where string, x *txn.Tx, touched, homes int) {
	t.Helper()
	if x.Touched() != touched || x.Homes() != homes {
		t.Errorf("%s: P7.1: Touched %d, Homes %d, not %d, %d", where, x.Touched(), x.Homes(), touched, homes)
	}
}

func wantCommit(t *testing.T, where string, x *txn.Tx, want api.Errno) {
	t.Helper()
	if e := x.Commit(); e != want {
		t.Errorf("%s: P7.2: Commit: error %d, not %d", where, e, want)
	}
}

// wantHome holds what the journal tells of a home sector against what must be.
func wantHome(t *testing.T, where string, j *journal.Journal, i int, want []byte) {
	t.Helper()
	if b, e := j.Read(i); e != api.OK || !bytes.Equal(b, want) {
		t.Fatalf("%s: home sector %d: error %d, %d bytes, not the %d wanted ones", where, i, e, len(b), len(want))
	}
}

func imageOf(t *testing.T, d *disk.Disk) [][]byte {
	t.Helper()
	var image [][]byte
	for i := range d.Len() {
		b, e := d.Read(i)
		if e != api.OK {
			t.Fatalf("disk.Read(%d): error %d", i, e)
		}
		image = append(image, b)
	}
	return image
}

// wantSame holds two disks against each other, their sectors only if the power is on.
func wantSame(t *testing.T, where string, d, twin *disk.Disk) {
	t.Helper()
	if d.Dead() != twin.Dead() || d.Writes() != twin.Writes() || !slices.Equal(d.Waiting(), twin.Waiting()) {
		t.Fatalf("%s: %d writes and %v waiting, not %d and %v", where, d.Writes(), d.Waiting(), twin.Writes(), twin.Waiting())
	}
	if d.Dead() {
		return
	}
	got, want := imageOf(t, d), imageOf(t, twin)
	for i := range want {
		if !bytes.Equal(got[i], want[i]) {
			t.Fatalf("%s: the disk's sector %d is % x.., not % x..", where, i, got[i][:32], want[i][:32])
		}
	}
}

// bench is a journal with transactions, and beside it one on a disk of its own that is handed what they must hand on.
type bench struct {
	t    *testing.T
	d    *disk.Disk
	j    *journal.Journal
	twin *disk.Disk
	k    *journal.Journal
	rows []*row
}

// row is a transaction, and beside it a plain one.
type row struct {
	x        *txn.Tx
	k        *journal.Journal // the twin's
	turn     uint64
	written  []api.Put // in the order of the calls
	finished bool
}

func newBench(t *testing.T, size, ring int) *bench {
	t.Helper()
	b := &bench{t: t}
	b.d, b.j = opened(t, size, ring)
	b.twin, b.k = opened(t, size, ring)
	return b
}

func (b *bench) begin(want api.Errno) *row {
	b.t.Helper()
	x, e := txn.Begin(b.j)
	if e != want || (x == nil) != (want != api.OK) {
		b.t.Fatalf("P7.1: Begin: error %d, not %d; a transaction: %v", e, want, x != nil)
	}
	r := &row{x: x, k: b.k, turn: b.k.Turn(), finished: want != api.OK}
	b.rows = append(b.rows, r)
	b.wantAll("P7.1: Begin")
	return r
}

// homes is what r has written to each home sector, at last.
func (r *row) homes() map[int][]byte {
	m := map[int][]byte{}
	for _, p := range r.written {
		m[p.Sector] = p.Data
	}
	return m
}

// plainWrite tells what Write answers.
func (r *row) plainWrite(i int, data []byte) api.Errno {
	others := r.homes()
	delete(others, i)
	switch {
	case r.finished:
		return api.ErrNone
	case i < 0 || i >= r.k.Homes():
		return api.ErrArg
	case len(data) != 512:
		return api.ErrSize
	case len(others) >= 40:
		return api.ErrLong
	}
	return api.OK
}

func (b *bench) write(r *row, i int, data []byte) {
	b.t.Helper()
	want := r.plainWrite(i, data)
	wantWrite(b.t, "a row of calls", r.x, i, data, want)
	if want == api.OK {
		r.written = append(r.written, api.Put{Sector: i, Data: bytes.Clone(data)})
	}
	b.wantNumbers(r, "P7.1: Write")
}

func (b *bench) read(r *row, i int) {
	b.t.Helper()
	if data, ok := r.homes()[i]; ok && !r.finished {
		wantRead(b.t, "what it wrote itself", r.x, i, data)
		return
	}
	// Reading may close a journal, so the twin is asked only where a transaction asks its own.
	if r.finished {
		wantNoRead(b.t, "finished", r.x, i, api.ErrNone)
	} else if data, e := r.k.Read(i); e != api.OK {
		wantNoRead(b.t, "what it did not write", r.x, i, e)
	} else {
		wantRead(b.t, "what it did not write", r.x, i, data)
	}
}

// plainPuts is what r must hand to the journal.
func (r *row) plainPuts() []api.Put {
	var l []api.Put
	homes := r.homes()
	for _, i := range slices.Sorted(maps.Keys(homes)) {
		l = append(l, api.Put{Sector: i, Data: homes[i]})
	}
	return l
}

// commit holds what Commit answers against what it must, and tells it.
func (b *bench) commit(r *row) api.Errno {
	b.t.Helper()
	want := api.ErrNone
	if !r.finished {
		want = api.ErrOrder
		if r.k.Turn() == r.turn {
			want = r.k.Commit(r.plainPuts())
		}
	}
	r.finished = true
	wantCommit(b.t, "a row of calls", r.x, want)
	b.wantAll("P7.2: Commit")
	return want
}

func (b *bench) wantCommit(where string, r *row, want api.Errno) {
	b.t.Helper()
	if e := b.commit(r); e != want {
		b.t.Errorf("%s: the plain transaction answers Commit with error %d, not %d", where, e, want)
	}
}

func (b *bench) abort(r *row) {
	b.t.Helper()
	r.x.Abort()
	r.finished = true
	b.wantAll("P7.2: Abort")
}

// power lets the power fail and return, and opens the journals anew; of what waits, some survives.
func (b *bench) power(next func() uint64) {
	b.t.Helper()
	keep := make([]bool, len(b.d.Waiting()))
	for k := range keep {
		keep[k] = next()%2 == 0
	}
	b.d.Power(keep)
	b.twin.Power(keep)
	wantSame(b.t, "Power", b.d, b.twin)
	b.j, b.k = reopened(b.t, b.d), reopened(b.t, b.twin)
	b.wantAll("Power")
}

func (b *bench) wantNumbers(r *row, where string) {
	b.t.Helper()
	if r.finished {
		wantNumbers(b.t, where, r.x, 0, 0)
	} else {
		wantNumbers(b.t, where, r.x, len(r.homes()), r.k.Homes())
	}
}

// wantAll holds the numbers of all transactions, those of the journal, and the disk against what must be.
func (b *bench) wantAll(where string) {
	b.t.Helper()
	for _, r := range b.rows {
		b.wantNumbers(r, where)
	}
	if b.j.Turn() != b.k.Turn() || b.j.Free() != b.k.Free() {
		b.t.Errorf("%s: the journal's Turn %d, Free %d, not %d, %d", where, b.j.Turn(), b.j.Free(), b.k.Turn(), b.k.Free())
	}
	wantSame(b.t, where, b.d, b.twin)
}

// readAll reads each home sector, and some that are none, through each transaction.
func (b *bench) readAll() {
	b.t.Helper()
	for _, r := range b.rows {
		for i := range b.k.Homes() + 2 {
			b.read(r, i-1)
		}
	}
}
