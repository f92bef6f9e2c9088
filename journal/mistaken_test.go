package journal_test

import (
	"testing"

	"coffer/api"
	"coffer/disk"
)

// lure is a sector that is a part of a later commit, or an anchor, to the byte.
func lure(next func() uint64, m *plain) []byte {
	turn := max(1, m.turn+next()%12-3)
	some := putsOf(int(next()%9), int(next()%8), 1+int(next()%7))
	switch next() % 5 {
	case 0, 1:
		return headerOf(turn, some)
	case 2, 3:
		return ringOf(turn, sectorOf(int(next()%9)))
	default:
		return anchorOf(m.number+next()%4, turn, int(next())%m.ring, m.ring)
	}
}

func lures(next func() uint64, m *plain, n int) []api.Put {
	var l []api.Put
	first := int(next() % 8)
	for k := range n {
		l = append(l, api.Put{Sector: first + k, Data: lure(next, m)})
	}
	return l
}

// Commits of sectors that are headers, ring sectors or anchors; the power fails on the way of each, and the journal goes on with what survives.
func TestLuresAreNotTaken(t *testing.T) {
	rows := 150
	if testing.Short() {
		rows = 20
	}
	for seed := range rows {
		next := numbers(uint64(seed) + 900)
		b := newBench(t, 32, 8+seed%3)
		for range 30 {
			l := lures(next, b.m, 1+int(next()%7))
			if next()%3 > 0 {
				b.commit(l, api.OK)
				continue
			}
			turn, before := b.m.turn, historyFrom(b.homes, [][]api.Put{l})
			b.d.Arm(int(next()%16), parts()[next()%6])
			done := b.j.Commit(l) == api.OK
			powerBy(next, b.d)
			b.twin = b.d.Copy()
			b.open(api.OK)
			n := b.m.turn - turn
			if n > 1 || done && n == 0 {
				t.Fatalf("What follows: the turn goes from %d to %d, and the commit was answered: %v", turn, b.m.turn, done)
			}
			for i, want := range before[n] {
				wantRead(t, "What follows", b.j, i, want)
			}
		}
	}
}

// Data that stands in the ring exactly where the next header is looked for, and is that header to the byte, with its sectors behind it.
func TestLureInPlace(t *testing.T) {
	for position := range 8 {
		for size := 1; size < 6; size++ {
			d := newDisk(t, 32)
			lay(t, d, step{1, anchorOf(1, 1, position, 8)})
			b := benchOn(t, d)
			// Commit 1 fills the ring, commit 2 goes over the beginning of it, and behind that commit 3 would begin.
			l, trap := putsOf(1, 0, 7), putsOf(5, 10, 6-size)
			l[size].Data = headerOf(3, trap)
			for k, x := range trap {
				l[size+1+k].Data = ringOf(3, x.Data)
			}
			b.commit(l, api.OK)
			b.commit(putsOf(2, 8, size), api.OK)
			b.power(false)
			b.open(api.OK)
			wantNumbers(t, "a lure in place", b.j, 22, 2, 8)
			b.open(api.OK)
			wantNumbers(t, "a lure in place", b.j, 22, 2, 8)
			// The trap works: were the data in the ring what was handed in, it would be a commit.
			for k := size; k < 7; k++ {
				lay(t, d, step{2 + (position+1+k)%8, l[k].Data})
			}
			b.twin = d.Copy()
			b.open(api.OK)
			wantNumbers(t, "the trap", b.j, 22, 3, 8)
		}
	}
}

// Home sectors that are anchors, headers and ring sectors, in every place at home and in the ring.
func TestLuresAtHome(t *testing.T) {
	next := numbers(3)
	for _, ring := range []int{8, 22} {
		b := newBench(t, 32, ring)
		for k := range 60 {
			first := k % (b.m.homes - 2)
			var l []api.Put
			for i := range 3 {
				l = append(l, api.Put{Sector: first + i, Data: lure(next, b.m)})
			}
			b.commit(l, api.OK)
			if k%3 == 0 {
				b.power(false)
				b.open(api.OK)
			}
		}
	}
}

// A header that was torn, and its commit made anew with the same turn, in all the ways of tearing.
func TestTornHeaders(t *testing.T) {
	elder, newer := putsOf(1, 0, 2), putsOf(2, 5, 2)
	for part := range 513 {
		d, j := committed(t, 32, 8)
		d.Arm(4, part)
		if e := j.Commit(elder); e != api.ErrDead {
			t.Fatalf("P6.3: Commit: error %d", e)
		}
		d.Power(nil)
		if b := benchOn(t, d.Copy()); b.m.turn != 1 && part < 512 || b.m.turn != 2 && part == 512 {
			t.Fatalf("P6.3: a header of %d bytes: Turn %d", part, b.j.Turn())
		}
		if part < 512 {
			tearAgain(t, d, newer, part)
		}
	}
}

// tearAgain commits l where a torn header is, and tears that one at the same place, and at its end.
func tearAgain(t *testing.T, d *disk.Disk, l []api.Put, part int) {
	t.Helper()
	for _, other := range []int{0, 8, part, 504, 511} {
		for stop := range 6 {
			c := d.Copy()
			j := wantOpen(t, "a torn header", c)
			c.Arm(stop, other)
			if e := j.Commit(l); e != api.ErrDead {
				t.Fatalf("P6.3: Commit: error %d", e)
			}
			keeps := everyKeep(len(c.Waiting()))
			for _, keep := range keeps {
				s := c.Copy()
				s.Power(keep)
				if k := wantOpen(t, "a torn header", s); k.Turn() != 0 && stop < 5 {
					t.Fatalf("P6.3: a header torn twice, at %d and %d: Turn %d", part, other, k.Turn())
				}
			}
		}
	}
}
