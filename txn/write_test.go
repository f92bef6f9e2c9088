package txn_test

import (
	"math"
	"testing"

	"coffer/api"
	"coffer/txn"
)

// nowhere are numbers of no home sector, where there are 134 of them.
func nowhere() []int {
	return []int{math.MinInt, -1 << 32, -512, -134, -2, -1, 134, 135, 198, 200, 4096, 1 << 32, 1<<32 + 5, math.MaxInt}
}

// sizes are lengths that are not a sector's.
func sizes() []int { return []int{0, 1, 256, 511, 513, 1024, 100000} }

func TestWriteErrors(t *testing.T) {
	_, j := opened(t, 200, 64)
	x := begun(t, j, at(1, 0, 133)...)
	for _, i := range nowhere() {
		wantWrite(t, "no such home", x, i, sectorOf(2), api.ErrArg)
		for _, n := range sizes() {
			wantWrite(t, "no such home, and no sector", x, i, dataOf(2, n), api.ErrArg)
		}
		wantWrite(t, "no such home, and nothing", x, i, nil, api.ErrArg)
	}
	for _, i := range []int{0, 1, 64, 132, 133} {
		for _, n := range sizes() {
			wantWrite(t, "no sector", x, i, dataOf(2, n), api.ErrSize)
		}
		wantWrite(t, "nothing", x, i, nil, api.ErrSize)
		wantWrite(t, "a sector with room for more", x, i, make([]byte, 511, 600), api.ErrSize)
	}
	wantNumbers(t, "behind refusals", x, 2, 134)
	wantRead(t, "behind refusals", x, 0, sectorOf(1000))
	wantRead(t, "behind refusals", x, 133, sectorOf(1001))
	wantRead(t, "behind refusals", x, 1, zeros())
	for _, i := range []int{0, 1, 132, 133} {
		wantWrite(t, "a home", x, i, sectorOf(3), api.OK)
		wantRead(t, "a home", x, i, sectorOf(3))
	}
}

// full is a transaction that wrote 40 sectors, from the last one of 134 downwards.
func full(t *testing.T) *txn.Tx {
	_, j := opened(t, 200, 64)
	x := begin(t, j)
	for k := range 40 {
		wantNumbers(t, "up to 40", x, k, 134)
		wantWrite(t, "up to 40", x, 133-k, sectorOf(k), api.OK)
	}
	return x
}

func TestFortySectors(t *testing.T) {
	x := full(t)
	for range 2 {
		for i := range 94 {
			wantWrite(t, "one more", x, i, sectorOf(i), api.ErrLong)
			wantRead(t, "one more", x, i, zeros())
		}
		for k := range 40 {
			wantWrite(t, "one of the forty again", x, 94+k, sectorOf(100+k), api.OK)
			wantRead(t, "one of the forty again", x, 94+k, sectorOf(100+k))
			wantNumbers(t, "one of the forty again", x, 40, 134)
		}
	}
}

// What comes first of two faults, of which one is that there are forty sectors already.
func TestFortySectorsAndAnotherFault(t *testing.T) {
	x := full(t)
	for _, i := range nowhere() {
		wantWrite(t, "forty, and no such home", x, i, sectorOf(1), api.ErrArg)
		wantWrite(t, "forty, and no such home, and no sector", x, i, nil, api.ErrArg)
	}
	for _, n := range sizes() {
		wantWrite(t, "forty, and no sector", x, 93, dataOf(1, n), api.ErrSize)
		wantWrite(t, "one of the forty, and no sector", x, 94, dataOf(1, n), api.ErrSize)
	}
	wantNumbers(t, "forty, and another fault", x, 40, 134)
	wantRead(t, "forty, and another fault", x, 94, sectorOf(39))
}

// Refusals don't count to the forty; nor does a sector that is written again.
func TestWhatCountsToForty(t *testing.T) {
	_, j := opened(t, 200, 64)
	x := begin(t, j)
	for k := range 40 {
		wantWrite(t, "no such home", x, 134+k, sectorOf(k), api.ErrArg)
		wantWrite(t, "no sector", x, 50+k, dataOf(k, 511), api.ErrSize)
		for range 3 {
			wantWrite(t, "again and again", x, k, sectorOf(k), api.OK)
		}
		wantNumbers(t, "what counts to forty", x, k+1, 134)
	}
	wantWrite(t, "the forty-first", x, 40, sectorOf(1), api.ErrLong)
	wantNumbers(t, "what counts to forty", x, 40, 134)
}

// A ring of 8 takes 7 sectors in a commit, but the transaction may write 40 before it is told so.
func TestFortySectorsOnAShortRing(t *testing.T) {
	_, j := opened(t, 100, 8)
	x := begun(t, j, putsOf(1, 0, 40)...)
	wantNumbers(t, "a ring of 8", x, 40, 90)
	wantWrite(t, "a ring of 8", x, 40, sectorOf(1), api.ErrLong)
}

func TestReadErrors(t *testing.T) {
	d, j := opened(t, 200, 64)
	x := begun(t, j, at(1, 0, 133)...)
	for _, i := range nowhere() {
		wantNoRead(t, "no such home", x, i, api.ErrArg)
	}
	d.Power(nil)
	for _, i := range append(nowhere(), 1, 5, 132) {
		wantNoRead(t, "a closed journal", x, i, api.ErrDead)
	}
}

// A transaction on a closed journal is not finished: only what the journal answers is refused.
func TestOnAClosedJournal(t *testing.T) {
	d, j := opened(t, 200, 64)
	x := begun(t, j, at(1, 0, 133)...)
	d.Power(nil)
	wantRead(t, "what it wrote itself", x, 133, sectorOf(1001))
	wantWrite(t, "a closed journal", x, 5, sectorOf(2), api.OK)
	wantRead(t, "what it wrote itself", x, 5, sectorOf(2))
	wantNumbers(t, "a closed journal", x, 3, 134)
	wantWrite(t, "a closed journal", x, 134, sectorOf(2), api.ErrArg)
	wantWrite(t, "a closed journal", x, 4, nil, api.ErrSize)
	for i := range 37 {
		wantWrite(t, "a closed journal", x, 10+i, sectorOf(2), api.OK)
	}
	wantWrite(t, "a closed journal", x, 4, sectorOf(2), api.ErrLong)
	wantCommit(t, "a closed journal", x, api.ErrDead)
	wantCommit(t, "a closed journal", x, api.ErrNone)
}

// The disk returns an error to a transaction's Read, which closes the journal.
func TestReadOfADeadDisk(t *testing.T) {
	d, j := opened(t, 64, 16)
	begun(t, j, at(1, 3)...).Commit()
	x := begun(t, j, at(2, 4)...)
	d.Arm(0, 0)
	d.Flush()
	wantRead(t, "in the ring", x, 3, sectorOf(1000))
	wantRead(t, "its own", x, 4, sectorOf(2000))
	wantNoRead(t, "no such home", x, 46, api.ErrArg)
	wantNoRead(t, "at home", x, 5, api.ErrDead)
	wantNoRead(t, "closed, in the ring", x, 3, api.ErrDead)
	wantNoRead(t, "closed, no such home", x, 46, api.ErrDead)
	wantRead(t, "closed, its own", x, 4, sectorOf(2000))
}

// What a transaction reads: its own data, however often it is written, or else what the journal has at that time.
func TestReads(t *testing.T) {
	_, j := opened(t, 64, 16)
	x, y := begin(t, j), begin(t, j)
	wantRead(t, "written by none", x, 3, zeros())
	wantWrite(t, "once", x, 3, sectorOf(1), api.OK)
	wantRead(t, "once", x, 3, sectorOf(1))
	wantRead(t, "written by another one", y, 3, zeros())
	wantWrite(t, "twice", x, 3, sectorOf(2), api.OK)
	wantRead(t, "twice", x, 3, sectorOf(2))
	wantRead(t, "read twice", x, 3, sectorOf(2))
	wantWrite(t, "both", y, 3, sectorOf(3), api.OK)
	wantRead(t, "both", x, 3, sectorOf(2))
	wantRead(t, "both", y, 3, sectorOf(3))
	wantHome(t, "none has committed", j, 3, zeros())
	wantWrite(t, "zeros", x, 4, zeros(), api.OK)
	wantRead(t, "zeros", x, 4, zeros())
	wantWrite(t, "zeros over something", x, 3, zeros(), api.OK)
	wantRead(t, "zeros over something", x, 3, zeros())
	wantNumbers(t, "reads", x, 2, 46)
	wantNumbers(t, "reads", y, 1, 46)
	if e := j.Commit(at(4, 3, 5)); e != api.OK {
		t.Fatalf("journal.Commit: error %d", e)
	}
	wantRead(t, "its own, and another one has committed", y, 3, sectorOf(3))
	wantRead(t, "another one has committed", y, 5, sectorOf(4001))
	wantRead(t, "written by one that did not commit", y, 4, zeros())
	y.Abort()
	wantRead(t, "what was aborted", begin(t, j), 3, sectorOf(4000))
}

// A sector of zeros is data as any other, over what is in the ring and over what is at home.
func TestZerosOverSomething(t *testing.T) {
	for _, home := range []bool{false, true} {
		_, j := opened(t, 64, 16)
		begun(t, j, at(1, 3, 4)...).Commit()
		if home {
			j.Checkpoint()
		}
		x := begun(t, j, api.Put{Sector: 3, Data: zeros()}, api.Put{Sector: 9, Data: zeros()})
		wantNumbers(t, "zeros", x, 2, 46)
		wantRead(t, "zeros", x, 3, zeros())
		wantCommit(t, "zeros", x, api.OK)
		wantHome(t, "zeros", j, 3, zeros())
		wantHome(t, "zeros", j, 4, sectorOf(1001))
		if j.Turn() != 2 {
			t.Errorf("P7.2: Commit of zeros: the journal's Turn is %d", j.Turn())
		}
		wantCommit(t, "zeros over zeros", begun(t, j, api.Put{Sector: 9, Data: zeros()}), api.OK)
		if j.Turn() != 3 {
			t.Errorf("P7.2: Commit of zeros over zeros: the journal's Turn is %d", j.Turn())
		}
	}
}

// Writes are no operation of the disk, nor are reads.
func TestWritesWait(t *testing.T) {
	d, j := opened(t, 64, 16)
	twin := d.Copy()
	d.Arm(0, 0)
	x := begun(t, j, putsOf(1, 0, 40)...)
	for i := range 46 {
		if _, e := x.Read(i); e != api.OK {
			t.Errorf("P7.1: Read(%d): error %d", i, e)
		}
	}
	x.Abort()
	begin(t, j).Commit()
	wantSame(t, "P7.1: Write and Read, and P7.2: Abort", d, twin)
}
