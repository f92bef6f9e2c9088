package journal_test

import (
	"bytes"
	"slices"
	"testing"

	"coffer/api"
	"coffer/disk"
	"coffer/journal"
)

// numbers gives a row of numbers that looks random and is the same in every run.
func numbers(seed uint64) func() uint64 {
	seed = seed*0x9e3779b97f4a7c15 + 1
	return func() uint64 {
		seed ^= seed << 13
		seed ^= seed >> 7
		seed ^= seed << 17
		return seed >> 11
	}
}

func dataOf(seed, n int) []byte {
	next := numbers(uint64(seed) + 1)
	b := make([]byte, n)
	for i := range b {
		b[i] = byte(next())
	}
	return b
}

func sectorOf(seed int) []byte { return dataOf(seed, 512) }

func zeros() []byte { return make([]byte, 512) }

func all(c byte) []byte { return bytes.Repeat([]byte{c}, 512) }

// putsOf is a list of so many sectors, from home sector first on, with data that is other for each seed.
func putsOf(seed, first, n int) []api.Put {
	var l []api.Put
	for k := range n {
		l = append(l, api.Put{Sector: first + k, Data: sectorOf(seed*1000 + k)})
	}
	return l
}

func newDisk(t *testing.T, n int) *disk.Disk {
	t.Helper()
	d := disk.New(n)
	if d == nil {
		t.Fatalf("disk.New(%d): nil", n)
	}
	return d
}

// bench is a journal, and beside it a plain one, whose steps are taken on a disk of its own.
type bench struct {
	t     *testing.T
	d     *disk.Disk
	j     *journal.Journal
	twin  *disk.Disk
	m     *plain
	homes [][]byte // what the home sectors have
}

// newBench formats a disk and opens its journal.
func newBench(t *testing.T, size, ring int) *bench {
	t.Helper()
	d := newDisk(t, size)
	if e := journal.Format(d, ring); e != api.OK {
		t.Fatalf("P6.1: Format of %d sectors, a ring of %d: error %d", size, ring, e)
	}
	return benchOn(t, d)
}

// benchOn opens the journal of a disk, which must be possible.
func benchOn(t *testing.T, d *disk.Disk) *bench {
	t.Helper()
	b := &bench{t: t, d: d, twin: d.Copy()}
	b.open(api.OK)
	if t.Failed() {
		t.FailNow()
	}
	return b
}

// open opens the journal anew.
func (b *bench) open(want api.Errno) {
	b.t.Helper()
	m, steps, e := plainOpen(imageOf(b.t, b.d))
	if e != want {
		b.t.Fatalf("the plain journal answers Open with error %d, not %d", e, want)
	}
	j, got := journal.Open(b.d)
	play(b.twin, steps)
	if got != want || (j == nil) != (want != api.OK) {
		b.t.Fatalf("P6.2: Open: error %d, not %d; a journal: %v", got, want, j != nil)
	}
	b.wantTwin("P6.2: Open")
	if want == api.OK {
		b.j, b.m = j, m
		b.homes = imageOf(b.t, b.twin)[2+m.ring:]
		b.wantAll("P6.2: Open")
	}
}

func (b *bench) commit(l []api.Put, want api.Errno) {
	b.t.Helper()
	steps, e := b.m.commit(l)
	if e != want {
		b.t.Fatalf("the plain journal answers Commit with error %d, not %d", e, want)
	}
	play(b.twin, steps)
	if got := b.j.Commit(l); got != want {
		b.t.Errorf("P6.3: Commit of %d sectors: error %d, not %d", len(l), got, want)
	}
	if want == api.OK {
		for _, x := range l {
			b.homes[x.Sector] = bytes.Clone(x.Data)
		}
	}
	b.wantTwin("P6.3: Commit")
	b.wantAll("P6.3: Commit")
}

func (b *bench) checkpoint(want api.Errno) {
	b.t.Helper()
	steps, e := b.m.checkpoint()
	if e != want {
		b.t.Fatalf("the plain journal answers Checkpoint with error %d, not %d", e, want)
	}
	play(b.twin, steps)
	if got := b.j.Checkpoint(); got != want {
		b.t.Errorf("P6.3: Checkpoint: error %d, not %d", got, want)
	}
	b.wantTwin("P6.3: Checkpoint")
	b.wantAll("P6.3: Checkpoint")
}

// power lets the power fail and return; all that waits survives if kept.
func (b *bench) power(kept bool) {
	keep := slices.Repeat([]bool{kept}, b.d.Len())
	b.d.Power(keep)
	b.twin.Power(keep)
}

// powerBy lets the power fail and return; of what waits, some survives.
func powerBy(next func() uint64, d *disk.Disk) {
	keep := make([]bool, len(d.Waiting()))
	for k := range keep {
		keep[k] = next()%2 == 0
	}
	d.Power(keep)
}

func (b *bench) wantTwin(where string) {
	b.t.Helper()
	wantSame(b.t, where, b.d, b.twin)
}

// wantAll holds all that can be asked of the journal against what must be.
func (b *bench) wantAll(where string) {
	b.t.Helper()
	wantNumbers(b.t, where, b.j, b.m.homes, b.m.turn-1, b.m.free)
	for i, want := range b.homes {
		wantRead(b.t, where, b.j, i, want)
	}
}

// wantSame holds two disks whose power is on against each other.
func wantSame(t *testing.T, where string, d, twin *disk.Disk) {
	t.Helper()
	if d.Dead() || twin.Dead() || d.Writes() != twin.Writes() || !slices.Equal(d.Waiting(), twin.Waiting()) {
		t.Fatalf("%s: %d writes and %v waiting, not %d and %v", where, d.Writes(), d.Waiting(), twin.Writes(), twin.Waiting())
	}
	got, want := imageOf(t, d), imageOf(t, twin)
	for i := range want {
		if !bytes.Equal(got[i], want[i]) {
			t.Fatalf("%s: the disk's sector %d is % x.., not % x..", where, i, got[i][:32], want[i][:32])
		}
	}
}

func wantNumbers(t *testing.T, where string, j *journal.Journal, homes int, turn uint64, free int) {
	t.Helper()
	if j.Homes() != homes || j.Turn() != turn || j.Free() != free {
		t.Errorf("%s: Homes %d, Turn %d, Free %d, not %d, %d, %d", where, j.Homes(), j.Turn(), j.Free(), homes, turn, free)
	}
}

func wantRead(t *testing.T, where string, j *journal.Journal, i int, want []byte) {
	t.Helper()
	if b, e := j.Read(i); e != api.OK || !bytes.Equal(b, want) {
		t.Fatalf("%s: P6.4: Read(%d): error %d, %d bytes, not the %d wanted ones", where, i, e, len(b), len(want))
	}
}

func wantNoRead(t *testing.T, where string, j *journal.Journal, i int, want api.Errno) {
	t.Helper()
	if b, e := j.Read(i); e != want || len(b) != 0 {
		t.Errorf("%s: P6.4: Read(%d): error %d, not %d; %d bytes", where, i, e, want, len(b))
	}
}

func wantNoOpen(t *testing.T, where string, d *disk.Disk, want api.Errno) {
	t.Helper()
	writes := d.Writes()
	if j, e := journal.Open(d); e != want || j != nil || d.Writes() != writes {
		t.Errorf("%s: P6.2: Open: error %d, not %d; a journal: %v; %d writes", where, e, want, j != nil, d.Writes()-writes)
	}
}

// lay writes sectors to d, durably.
func lay(t *testing.T, d *disk.Disk, steps ...step) {
	t.Helper()
	if e := play(d, append(slices.Clone(steps), flush())); e != api.OK {
		t.Fatalf("the disk: error %d", e)
	}
}
