package journal_test

import (
	"slices"
	"testing"

	"coffer/api"
	"coffer/disk"
	"coffer/journal"
)

// parts are how many bytes of the sector in flight are written.
func parts() []int { return []int{0, 1, 8, 15, 511, 512} }

// scene makes a disk and a call that is still to be done on it: the same ones each time.
type scene func(t *testing.T) (*disk.Disk, func() api.Errno)

// someKeeps are choices of what survives of so many sectors: all choices if those are few.
func someKeeps(n int) [][]bool {
	if n <= 4 {
		return everyKeep(n)
	}
	keeps := [][]bool{nil, slices.Repeat([]bool{true}, n), slices.Repeat([]bool{true, false}, n), slices.Repeat([]bool{false, true}, n)}
	for _, k := range []int{0, 1, n - 1} {
		one, other := make([]bool, n), slices.Repeat([]bool{true}, n)
		one[k], other[k] = true, false
		keeps = append(keeps, one, other)
	}
	return keeps
}

func everyKeep(n int) [][]bool {
	var keeps [][]bool
	for choice := range 1 << n {
		keep := make([]bool, n)
		for k := range keep {
			keep[k] = choice>>k&1 == 1
		}
		keeps = append(keeps, keep)
	}
	return keeps
}

// wantOrder lets the power fail at each operation of the scene's call, and holds what survives against what survives of the steps.
func wantOrder(t *testing.T, where string, s scene, steps []step) {
	t.Helper()
	for stop := range len(steps) + 1 {
		for _, part := range parts() {
			d, call := s(t)
			twin := d.Copy()
			d.Arm(stop, part)
			twin.Arm(stop, part)
			want := play(twin, steps)
			if got := call(); got != want || d.Dead() != twin.Dead() || !slices.Equal(d.Waiting(), twin.Waiting()) || d.Writes() != twin.Writes() {
				t.Fatalf("%s, the power fails behind %d of %d operations: error %d, not %d; %v waiting, not %v", where, stop, len(steps), got, want, d.Waiting(), twin.Waiting())
			}
			for _, keep := range someKeeps(len(d.Waiting())) {
				one, other := d.Copy(), twin.Copy()
				one.Power(keep)
				other.Power(keep)
				wantSame(t, where, one, other)
			}
			if stop == len(steps) || steps[stop].data == nil {
				break // no sector is in flight
			}
		}
	}
}

func TestOrderOfFormat(t *testing.T) {
	for _, c := range []struct{ size, ring int }{{32, 8}, {32, 22}, {45, 9}} {
		fresh := func(t *testing.T) (*disk.Disk, func() api.Errno) {
			d := newDisk(t, c.size)
			return d, func() api.Errno { return journal.Format(d, c.ring) }
		}
		wantOrder(t, "P6.1: Format", fresh, formatSteps(c.size, c.ring))
		used := func(t *testing.T) (*disk.Disk, func() api.Errno) {
			d := newDisk(t, c.size)
			for i := range c.size {
				lay(t, d, step{i, sectorOf(i)})
			}
			d.Write(0, sectorOf(99))
			return d, func() api.Errno { return journal.Format(d, c.ring) }
		}
		wantOrder(t, "P6.1: Format of a used disk", used, formatSteps(c.size, c.ring))
	}
}

// rows are lists to be committed; the last one of each is the one at which the power fails.
func rows() [][][]api.Put {
	four := []api.Put{{Sector: 21, Data: sectorOf(1)}, {Sector: 0, Data: sectorOf(2)}, {Sector: 7, Data: sectorOf(3)}, {Sector: 3, Data: sectorOf(4)}}
	return [][][]api.Put{
		{putsOf(1, 0, 1)},
		{putsOf(1, 15, 7)},
		{four},
		{putsOf(1, 3, 3), four[1:]},              // just fits
		{putsOf(1, 3, 3), four},                  // a checkpoint first, and round the end of the ring
		{four, putsOf(2, 3, 2), putsOf(3, 5, 2)}, // a checkpoint of two commits first
		{putsOf(2, 3, 2), four, putsOf(3, 2, 6)}, // the same, with sectors of which some are to be written home again
		{putsOf(1, 0, 7), putsOf(2, 0, 7)},
		{putsOf(1, 0, 5), putsOf(2, 0, 1), putsOf(3, 0, 1), putsOf(4, 0, 5)},
	}
}

func TestOrderOfCommit(t *testing.T) {
	for _, row := range rows() {
		last := len(row) - 1
		b := newBench(t, 32, 8)
		for _, l := range row[:last] {
			b.commit(l, api.OK)
		}
		steps, _ := b.m.commit(row[last])
		wantOrder(t, "P6.3: Commit", func(t *testing.T) (*disk.Disk, func() api.Errno) {
			d, j := committed(t, 32, 8, row[:last]...)
			return d, func() api.Errno { return j.Commit(row[last]) }
		}, steps)
	}
}

func TestOrderOfCheckpoint(t *testing.T) {
	for _, row := range rows() {
		b := newBench(t, 32, 8)
		for _, l := range row {
			b.commit(l, api.OK)
		}
		steps, _ := b.m.checkpoint()
		wantOrder(t, "P6.3: Checkpoint", func(t *testing.T) (*disk.Disk, func() api.Errno) {
			d, j := committed(t, 32, 8, row...)
			return d, j.Checkpoint
		}, steps)
	}
}

func TestOrderOfOpen(t *testing.T) {
	for _, row := range rows() {
		b := newBench(t, 32, 8)
		for _, l := range row {
			b.commit(l, api.OK)
		}
		_, steps, _ := plainOpen(imageOf(t, b.d))
		wantOrder(t, "P6.2: Open", func(t *testing.T) (*disk.Disk, func() api.Errno) {
			d, _ := committed(t, 32, 8, row...)
			return d, func() api.Errno {
				j, e := journal.Open(d)
				if (j != nil) != (e == api.OK) {
					t.Fatalf("P6.2: Open: error %d, and a journal: %v", e, j != nil)
				}
				return e
			}
		}, steps)
	}
}

// committed is a journal on a new disk to which lists were committed.
func committed(t *testing.T, size, ring int, lists ...[]api.Put) (*disk.Disk, *journal.Journal) {
	t.Helper()
	d := newDisk(t, size)
	if e := journal.Format(d, ring); e != api.OK {
		t.Fatalf("P6.1: Format: error %d", e)
	}
	j, e := journal.Open(d)
	if e != api.OK {
		t.Fatalf("P6.2: Open: error %d", e)
	}
	for k, l := range lists {
		if e := j.Commit(l); e != api.OK {
			t.Fatalf("P6.3: Commit of list %d: error %d", k, e)
		}
	}
	return d, j
}
