package journal_test

import (
	"math"
	"slices"
	"testing"

	"coffer/api"
	"coffer/journal"
)

// Lists of all lengths about the limits: 40 sectors, and one fewer than the ring has.
func TestLengths(t *testing.T) {
	for _, c := range []struct{ size, ring int }{{32, 8}, {64, 9}, {100, 39}, {100, 40}, {100, 41}, {100, 42}, {1100, 1024}} {
		most := min(40, c.ring-1)
		for _, n := range []int{0, 1, 2, most - 1, most, most + 1, c.ring - 2, c.ring - 1, c.ring, c.ring + 1, 39, 40, 41} {
			if n > c.size-2-c.ring {
				continue
			}
			want := api.OK
			if n > most {
				want = api.ErrLong
			}
			newBench(t, c.size, c.ring).commit(putsOf(n, 0, n), want)
		}
	}
}

func TestListErrors(t *testing.T) {
	b := newBench(t, 64, 16)
	b.commit(putsOf(1, 0, 3), api.OK)
	good := putsOf(2, 0, 3)
	with := func(k, sector, size int) []api.Put {
		l := slices.Clone(good)
		l[k] = api.Put{Sector: sector, Data: dataOf(1, size)}
		return l
	}
	for k := range 3 {
		for _, none := range []int{math.MinInt, -1 << 32, -46, -1, 46, 47, 62, 64, 1 << 32, 1<<32 + 5, math.MaxInt} {
			b.commit(with(k, none, 512), api.ErrArg)
			b.commit(with(k, none, 511), api.ErrArg)
			b.commit(with(k, none, 0), api.ErrArg)
		}
		for _, size := range []int{0, 1, 8, 511, 513, 1024} {
			b.commit(with(k, 9, size), api.ErrSize)
			b.commit(with(k, k, size), api.ErrSize)
		}
		b.commit(with(k, (k+1)%3, 512), api.ErrArg)
		b.commit(with(k, (k+2)%3, 512), api.ErrArg)
		b.commit(with(k, 45, 512), api.OK)
		b.commit(with(k, 9, 512), api.OK)
	}
	b.commit([]api.Put{{Sector: 3, Data: make([]byte, 511, 600)}}, api.ErrSize)
	b.commit([]api.Put{{Sector: 3}}, api.ErrSize)
	b.commit(nil, api.OK)
	b.commit([]api.Put{}, api.OK)
}

// The elements are looked at in order, each for its home first; the length of the list comes last.
func TestListsWithTwoFaults(t *testing.T) {
	b := newBench(t, 64, 16)
	none, short := api.Put{Sector: 46, Data: sectorOf(1)}, api.Put{Sector: 5, Data: dataOf(1, 511)}
	fine := func(i int) api.Put { return api.Put{Sector: i, Data: sectorOf(i)} }
	for _, c := range []struct {
		l    []api.Put
		want api.Errno
	}{
		{[]api.Put{none, short}, api.ErrArg},
		{[]api.Put{short, none}, api.ErrSize},
		{[]api.Put{short, short}, api.ErrSize},
		{[]api.Put{fine(5), short}, api.ErrArg},
		{[]api.Put{short, fine(5)}, api.ErrSize},
		{[]api.Put{fine(1), fine(1), short}, api.ErrArg},
		{[]api.Put{fine(1), short, fine(1)}, api.ErrSize},
		{[]api.Put{{Sector: 46}}, api.ErrArg},
		{[]api.Put{{Sector: -1, Data: dataOf(1, 511)}}, api.ErrArg},
		{append(putsOf(1, 6, 40), none), api.ErrArg},
		{append(putsOf(1, 6, 40), short), api.ErrSize},
		{append(putsOf(1, 6, 40), fine(6)), api.ErrArg},
		{append(putsOf(1, 6, 15), short), api.ErrSize},
		{append([]api.Put{short}, putsOf(1, 6, 40)...), api.ErrSize},
		{append(putsOf(1, 0, 46), none), api.ErrArg},
		{append(putsOf(1, 0, 46), fine(45)), api.ErrArg},
		{putsOf(1, 0, 46), api.ErrLong},
		{putsOf(1, 0, 41), api.ErrLong},
		{putsOf(1, 0, 16), api.ErrLong},
		{slices.Repeat([]api.Put{fine(3)}, 100000), api.ErrArg},
	} {
		b.commit(c.l, c.want)
	}
	for range 3 {
		b.commit(putsOf(1, 0, 15), api.OK)
	}
}

// A list is refused before the ring is looked at: a full ring is not emptied for it.
func TestRefusedListsWriteNothing(t *testing.T) {
	b := newBench(t, 64, 16)
	b.commit(putsOf(1, 0, 15), api.OK)
	for range 3 {
		b.commit(nil, api.OK)
		b.commit(putsOf(2, 0, 16), api.ErrLong)
		b.commit(append(putsOf(2, 0, 2), api.Put{Sector: 46, Data: sectorOf(1)}), api.ErrArg)
		b.commit(append(putsOf(2, 0, 2), api.Put{Sector: 2}), api.ErrSize)
	}
	if len(b.m.since) != 15 {
		t.Errorf("the ring was emptied")
	}
}

// Commits of two lengths one behind the other: the second one just fits, or makes a checkpoint first.
func TestFitOrCheckpoint(t *testing.T) {
	for _, ring := range []int{8, 9, 15} {
		for one := 1; one < ring; one++ {
			for other := 1; other < ring; other++ {
				b := newBench(t, 45, ring)
				b.commit(putsOf(1, 0, one), api.OK)
				free, number := b.j.Free(), b.m.number
				b.commit(putsOf(2, 3, other), api.OK)
				wantFree, wantNumber := free-other-1, number
				if free < other+1 {
					wantFree, wantNumber = ring-other-1, number+1
				}
				wantNumbers(t, "a second commit", b.j, 43-ring, 2, wantFree)
				if b.m.number != wantNumber {
					t.Errorf("P6.3: commits of %d and %d in a ring of %d: the anchor is %d, not %d", one, other, ring, b.m.number, wantNumber)
				}
			}
		}
	}
}

// Home sectors at the ends, with a ring at the ends.
func TestEveryHome(t *testing.T) {
	for _, c := range []struct{ size, ring int }{{32, 8}, {32, 22}, {1034, 1024}, {64, 16}} {
		d, j := committed(t, c.size, c.ring)
		homes := c.size - 2 - c.ring
		for i := range homes {
			if e := j.Commit([]api.Put{{Sector: homes - 1 - i, Data: sectorOf(i)}}); e != api.OK {
				t.Errorf("P6.3: Commit of home sector %d: error %d", homes-1-i, e)
			}
		}
		for i := range homes {
			wantRead(t, "every home", j, homes-1-i, sectorOf(i))
		}
		if e := j.Checkpoint(); e != api.OK {
			t.Errorf("P6.3: Checkpoint: error %d", e)
		}
		image := imageOf(t, d)
		for i := range homes {
			wantRead(t, "every home", j, homes-1-i, sectorOf(i))
			if !slices.Equal(image[c.size-1-i], sectorOf(i)) {
				t.Errorf("P6.3: home sector %d is not at home", homes-1-i)
			}
		}
	}
}

func TestReadErrors(t *testing.T) {
	b := newBench(t, 64, 16)
	for range 2 {
		for _, i := range []int{math.MinInt, -1 << 32, -46, -1, 46, 47, 64, 1 << 32, 1<<32 + 5, math.MaxInt} {
			wantNoRead(t, "no such home", b.j, i, api.ErrArg)
		}
		b.commit(putsOf(1, 40, 6), api.OK)
	}
	wantNoRead(t, "no such home", b.j, 46, api.ErrArg)
}

// Reading is no operation of the disk.
func TestReadWritesNothing(t *testing.T) {
	d, j := committed(t, 64, 16, putsOf(1, 0, 3))
	d.Arm(0, 512)
	for i := range 46 {
		if _, e := j.Read(i); e != api.OK {
			t.Errorf("P6.4: Read(%d): error %d", i, e)
		}
	}
	if d.Dead() || len(d.Waiting()) != 0 || j.Commit(nil) != api.OK {
		t.Errorf("P6.4: Read, or Commit of nothing, is an operation")
	}
}

func TestCheckpointOfNothing(t *testing.T) {
	b := newBench(t, 64, 16)
	for range 3 {
		b.checkpoint(api.OK)
	}
	b.commit(nil, api.OK)
	b.checkpoint(api.OK)
	b.commit(putsOf(1, 0, 16), api.ErrLong)
	b.checkpoint(api.OK)
	b.commit(putsOf(1, 0, 2), api.OK)
	b.power(false)
	b.open(api.OK)
	b.checkpoint(api.OK)
	b.d.Arm(0, 0)
	if e := b.j.Checkpoint(); e != api.OK || b.d.Dead() {
		t.Errorf("P6.3: Checkpoint of nothing is an operation: error %d", e)
	}
}

// A disk of the greatest length and one of the least: numbers of several bytes in anchors and headers.
func TestLongRow(t *testing.T) {
	for _, c := range []struct{ size, ring, rounds int }{{32, 8, 600}, {4096, 1024, 60}, {300, 200, 150}} {
		b := newBench(t, c.size, c.ring)
		b.homes = nil // Reads of all home sectors behind each commit would take seconds.
		wide := &wideBench{bench: b, homes: c.size - 2 - c.ring}
		for k := range c.rounds {
			n := 1 + k*7%min(40, c.ring-1)
			wide.commit(putsOf(k, k*31%(wide.homes-n+1), n))
			if k%37 == 36 {
				b.checkpoint(api.OK)
			}
		}
		b.power(false)
		b.open(api.OK)
		wantNumbers(t, "a long row", b.j, wide.homes, uint64(c.rounds), c.ring)
	}
}

// wideBench holds of the home sectors only those that a commit has against what must be.
type wideBench struct {
	*bench
	homes int
}

func (b *wideBench) commit(l []api.Put) {
	b.t.Helper()
	steps, _ := b.m.commit(l)
	play(b.twin, steps)
	if e := b.j.Commit(l); e != api.OK {
		b.t.Fatalf("P6.3: Commit of %d sectors: error %d", len(l), e)
	}
	for _, x := range l {
		wantRead(b.t, "a long row", b.j, x.Sector, x.Data)
	}
	if b.d.Writes() != b.twin.Writes() {
		b.t.Fatalf("P6.3: %d writes, not %d", b.d.Writes(), b.twin.Writes())
	}
}

// Two journals on two disks, called by turns.
func TestSideBySide(t *testing.T) {
	one, other := newBench(t, 64, 16), newBench(t, 64, 16)
	for k := range 20 {
		one.commit(putsOf(k, k, 4), api.OK)
		other.commit(putsOf(100+k, 30-k, 3), api.OK)
		if k%5 == 4 {
			other.power(false)
			wantNoRead(t, "without power", other.j, 3, api.ErrDead)
			one.wantAll("side by side")
			other.open(api.OK)
		}
	}
	one.wantAll("side by side")
}

func TestNoJournal(t *testing.T) {
	var none *journal.Journal
	for _, j := range []*journal.Journal{none, {}, new(journal.Journal)} {
		for range 2 {
			for _, i := range []int{math.MinInt, -1, 0, 5, math.MaxInt} {
				wantNoRead(t, "no journal", j, i, api.ErrArg)
			}
			for _, l := range [][]api.Put{nil, {}, putsOf(1, 0, 1), putsOf(1, 0, 41), {{Sector: -1}}, {{Sector: 1}}} {
				if e := j.Commit(l); e != api.ErrArg {
					t.Errorf("P6.3: Commit on no journal: error %d", e)
				}
			}
			if e := j.Checkpoint(); e != api.ErrArg {
				t.Errorf("P6.3: Checkpoint on no journal: error %d", e)
			}
			wantNumbers(t, "P6.4: no journal", j, 0, 0, 0)
		}
	}
}
