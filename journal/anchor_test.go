package journal_test

import (
	"encoding/binary"
	"slices"
	"testing"

	"coffer/api"
	"coffer/journal"
)

// changed is b with a number of so many bytes laid at an offset.
func changed(b []byte, at int, v uint64, n int) []byte {
	var word [8]byte
	binary.BigEndian.PutUint64(word[:], v)
	return slices.Concat(b[:at], word[8-n:], b[at+n:])
}

// wantTurn opens a disk whose sectors 0 and 1 are given, and holds the anchor that counts by its turn; 0: none counts.
func wantTurn(t *testing.T, where string, size int, zero, one []byte, turn uint64) {
	t.Helper()
	d := newDisk(t, size)
	lay(t, d, step{0, zero}, step{1, one})
	if turn == 0 {
		wantNoOpen(t, where, d, api.ErrNone)
		return
	}
	writes := d.Writes()
	j, e := journal.Open(d)
	if e != api.OK || j.Turn() != turn-1 || d.Writes() != writes {
		t.Errorf("P6.2: %s: Open: error %d, Turn %d, not %d", where, e, j.Turn(), turn-1)
	}
}

// badAnchors are anchors of the number 7 and the turn 70 on a disk of 64 sectors, valid in all but one thing.
func badAnchors() map[string][]byte {
	good := anchorOf(7, 70, 15, 16)
	return map[string][]byte{
		"the first copy of the tag is greater": changed(good, 0, 8, 8),
		"the first copy of the tag is less":    changed(good, 0, 6, 8),
		"the first copy's high byte":           changed(good, 0, 1, 1),
		"the first copy is 0":                  changed(good, 0, 0, 8),
		"the last copy of the tag is greater":  changed(good, 504, 8, 8),
		"the last copy of the tag is less":     changed(good, 504, 6, 8),
		"the last copy's high byte":            changed(good, 504, 1, 1),
		"the last copy is 0":                   changed(good, 504, 0, 8),
		"the tag is 0":                         anchorOf(0, 70, 15, 16),
		"the turn is 0":                        anchorOf(7, 0, 15, 16),
		"the turn is 2^62":                     anchorOf(7, 1<<62, 15, 16),
		"the turn is 2^63":                     anchorOf(7, 1<<63, 15, 16),
		"the turn is 2^64 - 1":                 anchorOf(7, 1<<64-1, 15, 16),
		"a ring of 0":                          anchorOf(7, 70, 0, 0),
		"a ring of 7":                          anchorOf(7, 70, 6, 7),
		"a ring that leaves 7 homes":           anchorOf(7, 70, 15, 55),
		"a ring that leaves none":              anchorOf(7, 70, 15, 62),
		"a ring greater than the disk":         anchorOf(7, 70, 15, 1000),
		"a ring of 2^31":                       anchorOf(7, 70, 15, 1<<31),
		"a ring of 2^32 - 1":                   anchorOf(7, 70, 15, 1<<32-1),
		"the position is the ring's length":    anchorOf(7, 70, 16, 16),
		"the position is greater":              anchorOf(7, 70, 17, 16),
		"the position is 2^31":                 anchorOf(7, 70, 1<<31, 16),
		"the position is 2^32 - 1":             anchorOf(7, 70, 1<<32-1, 16),
	}
}

func TestInvalidAnchors(t *testing.T) {
	elder := anchorOf(6, 60, 3, 16)
	for where, bad := range badAnchors() {
		wantTurn(t, where, 64, bad, zeros(), 0)
		wantTurn(t, where, 64, zeros(), bad, 0)
		wantTurn(t, where, 64, bad, bad, 0)
		wantTurn(t, where, 64, elder, bad, 60)
		wantTurn(t, where, 64, bad, elder, 60)
	}
	wantTurn(t, "a ring of 1,025", 1035, anchorOf(7, 70, 15, 1025), zeros(), 0)
	wantTurn(t, "a ring of 1,025", 4096, zeros(), anchorOf(7, 70, 15, 1025), 0)
	wantTurn(t, "a ring of 1,024 that leaves 7 homes", 1033, anchorOf(7, 70, 15, 1024), zeros(), 0)
	wantTurn(t, "no anchor", 64, zeros(), zeros(), 0)
	wantTurn(t, "no anchor", 64, sectorOf(1), sectorOf(2), 0)
	wantTurn(t, "no anchor", 64, all(255), all(255), 0)
	wantTurn(t, "no anchor", 64, all(1), all(1), 0)
}

func TestAnchorsAtTheEdge(t *testing.T) {
	elder := anchorOf(6, 60, 3, 16)
	for _, c := range []struct {
		size   int
		anchor []byte
		turn   uint64
	}{
		{64, anchorOf(7, 1, 15, 16), 1},
		{64, anchorOf(7, 1<<62-1, 15, 16), 1<<62 - 1},
		{64, anchorOf(1<<63, 70, 0, 16), 70},
		{64, anchorOf(1<<64-1, 70, 0, 16), 70},
		{64, anchorOf(7, 70, 7, 8), 70},
		{64, anchorOf(7, 70, 53, 54), 70},
		{1034, anchorOf(7, 70, 1023, 1024), 70},
		{4096, anchorOf(7, 70, 1023, 1024), 70},
		{64, slices.Concat(anchorOf(7, 70, 15, 16)[:24], slices.Repeat([]byte{9}, 480), anchorOf(7, 70, 15, 16)[504:]), 70},
	} {
		wantTurn(t, "an anchor at the edge", c.size, c.anchor, zeros(), c.turn)
		wantTurn(t, "an anchor at the edge", c.size, zeros(), c.anchor, c.turn)
		wantTurn(t, "an anchor at the edge", c.size, c.anchor, elder, c.turn)
		wantTurn(t, "an anchor at the edge", c.size, elder, c.anchor, c.turn)
	}
}

// The greater number counts, in whichever sector it is, and the sector 0 if the numbers are equal.
func TestTwoAnchors(t *testing.T) {
	for _, number := range []uint64{1, 2, 255, 256, 1<<32 - 1, 1 << 62, 1<<63 - 1, 1 << 63, 1<<64 - 2} {
		less, greater := anchorOf(number, 5, 2, 9), anchorOf(number+1, 4, 1, 8)
		wantTurn(t, "two anchors", 64, less, greater, 4)
		wantTurn(t, "two anchors", 64, greater, less, 4)
		wantTurn(t, "equal anchors", 64, less, anchorOf(number, 6, 3, 10), 5)
		wantTurn(t, "equal anchors", 64, anchorOf(number, 6, 3, 10), less, 6)
		wantTurn(t, "an invalid one and a valid one", 64, anchorOf(number, 0, 2, 9), less, 5)
	}
	wantTurn(t, "two anchors", 64, anchorOf(1<<64-1, 5, 2, 9), anchorOf(1, 6, 2, 9), 5)
	wantTurn(t, "two anchors", 64, anchorOf(1<<63, 5, 2, 9), anchorOf(1<<63-1, 6, 2, 9), 5)
}

// The anchor tells where the next commit goes, and how long the ring is.
func TestAnchorIsGoneOnFrom(t *testing.T) {
	for _, ring := range []int{8, 9, 22} {
		for position := range ring {
			d := newDisk(t, 32)
			lay(t, d, step{1, anchorOf(41, 1000, position, ring)})
			b := benchOn(t, d)
			wantNumbers(t, "an anchor", b.j, 30-ring, 999, ring)
			b.commit(putsOf(1, 1, 3), api.OK)
			b.commit(putsOf(2, 2, 3), api.OK)
			wantNumbers(t, "an anchor", b.j, 30-ring, 1001, ring-8)
			b.power(false)
			b.open(api.OK)
			wantNumbers(t, "an anchor", b.j, 30-ring, 1001, ring)
			b.checkpoint(api.OK)
		}
	}
}

// numbersAtTheLimit tells what a call that writes the next anchor answers for the number of the last one.
func numbersAtTheLimit() map[uint64]api.Errno {
	return map[uint64]api.Errno{
		1<<62 - 2: api.OK, 1<<62 - 1: api.OK,
		1 << 62: api.ErrFull, 1<<62 + 1: api.ErrFull, 1 << 63: api.ErrFull, 1<<64 - 2: api.ErrFull, 1<<64 - 1: api.ErrFull,
	}
}

func TestReplayAtTheLastNumber(t *testing.T) {
	for number, want := range numbersAtTheLimit() {
		for _, sector := range []int{0, 1} {
			d := newDisk(t, 64)
			lay(t, d, step{sector, anchorOf(number, 9, 5, 8)})
			benchOn(t, d).checkpoint(api.OK)
			lay(t, d, storeSteps(9, 5, 8, putsOf(1, 0, 5))...)
			b := &bench{t: t, d: d, twin: d.Copy()}
			b.open(want)
		}
	}
}

// A journal whose ring can't be emptied goes on as long as it has room, and is read from.
func TestCheckpointAtTheLastNumber(t *testing.T) {
	for number, want := range numbersAtTheLimit() {
		d := newDisk(t, 64)
		lay(t, d, step{0, anchorOf(number, 9, 5, 8)})
		b := benchOn(t, d)
		b.commit(putsOf(1, 0, 5), api.OK)
		b.commit(putsOf(2, 3, 2), want)
		for b.m.number < 1<<62 {
			b.checkpoint(api.OK)
			b.commit(putsOf(3, 5, 2), api.OK)
		}
		b.checkpoint(api.ErrFull)
		for b.m.free > 1 {
			b.commit(putsOf(4, 3, 1), api.OK)
			b.checkpoint(api.ErrFull)
		}
		b.commit(putsOf(5, 3, 1), api.ErrFull)
		b.commit(putsOf(5, 3, 7), api.ErrFull)
		b.commit(putsOf(5, 3, 8), api.ErrLong)
		b.commit(putsOf(5, 54, 1), api.ErrArg)
		b.commit(nil, api.OK)
	}
}

// The turn of a commit is below 2^62 - 1.
func TestTurnsAtTheLimit(t *testing.T) {
	for _, left := range []int{0, 1, 2, 5} {
		d := newDisk(t, 64)
		lay(t, d, step{0, anchorOf(8, 1<<62-1-uint64(left), 3, 16)})
		b := benchOn(t, d)
		for k := range left {
			b.commit(putsOf(k, k, 1), api.OK)
		}
		for range 2 {
			b.commit(putsOf(9, 9, 1), api.ErrFull)
			b.commit(putsOf(9, 9, 15), api.ErrFull)
			b.commit(putsOf(9, 0, 16), api.ErrLong)
			b.commit(putsOf(9, 46, 1), api.ErrArg)
			b.commit(nil, api.OK)
		}
		wantNumbers(t, "turns at the limit", b.j, 46, 1<<62-2, 16-2*left)
		b.power(true)
		b.open(api.OK)
		b.commit(putsOf(9, 9, 1), api.ErrFull)
		b.checkpoint(api.OK)
	}
}

// A checkpoint is made at the greatest turn; a commit of a full ring is refused before its checkpoint.
func TestCheckpointAtTheLastTurn(t *testing.T) {
	d := newDisk(t, 32)
	lay(t, d, step{0, anchorOf(8, 1<<62-3, 3, 8)})
	b := benchOn(t, d)
	b.commit(putsOf(1, 0, 3), api.OK)
	b.commit(putsOf(2, 2, 3), api.OK)
	b.commit(putsOf(3, 2, 3), api.ErrFull)
	b.checkpoint(api.OK)
	b.commit(putsOf(3, 2, 3), api.ErrFull)
	b.power(false)
	b.open(api.OK)
	wantNumbers(t, "the last turn", b.j, 22, 1<<62-2, 8)
}

// Commits whose turns come to 2^62 or more are replayed by nobody.
func TestReplayBeyondTheLastTurn(t *testing.T) {
	for _, c := range []struct {
		turn uint64
		n    int
		want api.Errno
	}{
		{1<<62 - 4, 3, api.OK}, {1<<62 - 3, 3, api.ErrFull}, {1<<62 - 2, 1, api.OK}, {1<<62 - 1, 0, api.OK},
		{1<<62 - 1, 1, api.ErrFull}, {1<<62 - 1, 2, api.ErrFull}, {1<<62 - 1, 4, api.ErrFull}, {1<<62 - 2, 4, api.ErrFull},
	} {
		d := newDisk(t, 32)
		steps := []step{{1, anchorOf(3, c.turn, 6, 8)}}
		for k := range c.n {
			steps = append(steps, storeSteps(c.turn+uint64(k), (6+2*k)%8, 8, putsOf(k, k, 1))...)
		}
		lay(t, d, steps...)
		b := &bench{t: t, d: d, twin: d.Copy()}
		b.open(c.want)
		if c.want == api.OK {
			wantNumbers(t, "replayed to the last turn", b.j, 22, c.turn+uint64(c.n)-1, 8)
		}
	}
}
