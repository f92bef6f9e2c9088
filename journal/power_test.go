package journal_test

import (
	"bytes"
	"crypto/sha256"
	"slices"
	"testing"

	"coffer/api"
	"coffer/disk"
	"coffer/journal"
)

// once tells whether a disk is one that it was not asked about before.
type once map[[32]byte]bool

func (o once) first(t *testing.T, d *disk.Disk, more ...byte) bool {
	t.Helper()
	k := sha256.Sum256(append(bytes.Join(imageOf(t, d), nil), more...))
	if o[k] {
		return false
	}
	o[k] = true
	return true
}

// history is what the home sectors are behind each of a row of commits.
type history [][][]byte

func historyOf(homes int, lists [][]api.Put) history {
	return historyFrom(slices.Repeat([][]byte{zeros()}, homes), lists)
}

// historyFrom is the history from what the home sectors are at first.
func historyFrom(first [][]byte, lists [][]api.Put) history {
	now := slices.Clone(first)
	h := history{slices.Clone(now)}
	for _, l := range lists {
		for _, x := range l {
			now[x.Sector] = x.Data
		}
		h = append(h, slices.Clone(now))
	}
	return h
}

// wantPrefix holds a journal against a prefix of the history, which it tells.
func (h history) wantPrefix(t *testing.T, where string, j *journal.Journal) int {
	t.Helper()
	n := int(j.Turn())
	if n >= len(h) || j.Homes() != len(h[0]) {
		t.Fatalf("%s: Turn %d, Homes %d", where, n, j.Homes())
	}
	for i, want := range h[n] {
		wantRead(t, where, j, i, want)
	}
	return n
}

func wantOpen(t *testing.T, where string, d *disk.Disk) *journal.Journal {
	t.Helper()
	j, e := journal.Open(d)
	if e != api.OK || j.Free() < 8 || len(d.Waiting()) != 0 {
		t.Fatalf("%s: P6.2: Open: error %d, Free %d, %v waiting", where, e, j.Free(), d.Waiting())
	}
	return j
}

// everyFailure lets the power fail at each operation of a call on a copy of d, with every part and every choice of what survives, and goes on with each disk that this leads to.
func everyFailure(t *testing.T, d *disk.Disk, call func(d *disk.Disk) int, then func(d *disk.Disk, done int)) {
	t.Helper()
	seen := once{}
	for stop := 0; ; stop++ {
		for _, part := range parts() {
			c := d.Copy()
			c.Arm(stop, part)
			done := call(c)
			if !c.Dead() {
				return
			}
			for _, keep := range everyKeep(len(c.Waiting())) {
				s := c.Copy()
				s.Power(keep)
				if seen.first(t, s, byte(done)) {
					then(s, done)
				}
			}
		}
	}
}

// commitAll tells how many of the lists were committed.
func commitAll(t *testing.T, d *disk.Disk, lists [][]api.Put) int {
	t.Helper()
	j, e := journal.Open(d)
	if e != api.OK {
		t.Fatalf("P6.2: Open: error %d", e)
	}
	for k, l := range lists {
		if j.Commit(l) != api.OK {
			return k
		}
		if k%4 == 3 && j.Checkpoint() != api.OK {
			return k + 1
		}
	}
	return len(lists)
}

// wantRecovered opens what a failure left, after failures of Open, too: the home sectors are those behind the commits that were answered, or behind one more.
func (h history) wantRecovered(t *testing.T, d *disk.Disk, done int, twice bool) {
	t.Helper()
	c := d.Copy()
	n := h.wantPrefix(t, "What follows", wantOpen(t, "What follows", c))
	if n != done && n != done+1 {
		t.Fatalf("What follows: %d commits were answered, and %d are found", done, n)
	}
	if !twice {
		return
	}
	open := func(d *disk.Disk) int {
		journal.Open(d)
		return 0
	}
	everyFailure(t, d, open, func(s *disk.Disk, _ int) {
		if again := h.wantPrefix(t, "What follows", wantOpen(t, "What follows", s)); again != n {
			t.Fatalf("What follows: %d commits are found, and behind a failure of Open %d", n, again)
		}
	})
}

func shuffled(seed int, homes ...int) []api.Put {
	var l []api.Put
	for k, i := range homes {
		l = append(l, api.Put{Sector: i, Data: sectorOf(seed*100 + k)})
	}
	return l
}

// Commits in a ring of 8: some just fit, some make a checkpoint first, some go round the end.
func TestEveryFailureOfCommits(t *testing.T) {
	lists := [][]api.Put{shuffled(1, 4, 2, 9), shuffled(2, 2, 3), shuffled(3, 9, 4, 5), shuffled(4, 21), shuffled(5, 0, 2), shuffled(6, 3, 2, 1, 0), shuffled(7, 2), shuffled(8, 2, 21)}
	h := historyOf(22, lists)
	d, _ := committed(t, 32, 8)
	everyFailure(t, d, func(d *disk.Disk) int { return commitAll(t, d, lists) }, func(s *disk.Disk, done int) {
		h.wantRecovered(t, s, done, !testing.Short())
	})
}

// A commit of as many sectors as a ring of 8 lets, at each position, behind another one of that kind.
func TestEveryFailureOfLongCommits(t *testing.T) {
	lists := [][]api.Put{shuffled(1, 6, 5, 4, 3, 2, 1, 0), shuffled(2, 4, 5, 6, 7, 8, 9, 10)}
	h := historyOf(22, lists)
	d, _ := committed(t, 32, 8)
	everyFailure(t, d, func(d *disk.Disk) int { return commitAll(t, d, lists) }, func(s *disk.Disk, done int) {
		h.wantRecovered(t, s, done, false)
	})
}

// A failure, another row of commits from there on, and another failure: what a commit that was cut off left in the ring is not taken up later.
func TestFailureBehindFailure(t *testing.T) {
	first := [][]api.Put{shuffled(1, 1, 2), shuffled(2, 2, 3)}
	h := historyOf(22, first)
	d, _ := committed(t, 32, 8)
	seen := once{}
	everyFailure(t, d, func(d *disk.Disk) int { return commitAll(t, d, first) }, func(s *disk.Disk, _ int) {
		n := h.wantPrefix(t, "What follows", wantOpen(t, "What follows", s))
		if n == len(first) || !seen.first(t, s) {
			return
		}
		// The second row repeats the turns of commits that were cut off, with fewer sectors, and others.
		second := [][]api.Put{shuffled(7, 3), shuffled(8, 1)}
		all := append(slices.Clone(h[:n]), historyFrom(h[n], second)...)
		everyFailure(t, s, func(d *disk.Disk) int { return n + commitAll(t, d, second) }, func(s *disk.Disk, done int) {
			all.wantRecovered(t, s, done, false)
		})
	})
}

// At each position of the ring, and with anchors whose tags differ in several bytes.
func TestEveryFailureAtEveryPosition(t *testing.T) {
	for position := range 8 {
		for _, number := range []uint64{255, 256, 1<<32 - 1} {
			d := newDisk(t, 32)
			lay(t, d, step{int(number % 2), anchorOf(number, 256, position, 8)}, step{int((number + 1) % 2), anchorOf(number-1, 255, 0, 8)})
			lists := [][]api.Put{shuffled(1, 7, 1), shuffled(2, 1, 2, 8), shuffled(3, 7)}
			h := historyOf(22, lists)
			everyFailure(t, d, func(d *disk.Disk) int { return commitAll(t, d, lists) }, func(s *disk.Disk, done int) {
				j := wantOpen(t, "What follows", s)
				n := int(j.Turn()) - 255
				if n != done && n != done+1 {
					t.Fatalf("What follows: %d commits were answered, and %d are found", done, n)
				}
				for i, want := range h[n] {
					wantRead(t, "What follows", j, i, want)
				}
			})
		}
	}
}
