package txn_test

import (
	"bytes"
	"testing"

	"coffer/api"
	"coffer/txn"
)

// withRoom is b with foreign bytes in front of it and in its unused capacity; whole is all of that.
func withRoom(b []byte) (whole, given []byte) {
	whole = bytes.Repeat([]byte{165}, len(b)+200)
	copy(whole[100:], b)
	return whole, whole[100 : 100+len(b)]
}

func writeOver(b []byte) {
	b = b[:cap(b)]
	for i := range b {
		b[i] ^= 255
	}
}

// writeAndWriteOver hands in data, and writes over it and about it.
func writeAndWriteOver(t *testing.T, x *txn.Tx, i int, data []byte, want api.Errno) {
	t.Helper()
	whole, given := withRoom(data)
	before := bytes.Clone(whole)
	wantWrite(t, "handed in", x, i, given, want)
	if !bytes.Equal(whole, before) {
		t.Errorf("P0.3: Write changes what it is handed")
	}
	writeOver(whole)
}

func TestWriteKeepsNothing(t *testing.T) {
	d, j := opened(t, 64, 16)
	x := begin(t, j)
	for round := range 3 {
		for k := range 10 {
			writeAndWriteOver(t, x, k, sectorOf(round*10+k), api.OK)
			wantRead(t, "P0.3: behind Write", x, k, sectorOf(round*10+k))
		}
		writeAndWriteOver(t, x, 46, sectorOf(77), api.ErrArg)
		writeAndWriteOver(t, x, 3, dataOf(77, 511), api.ErrSize)
	}
	wantCommit(t, "P0.3", x, api.OK)
	for k := range 10 {
		wantHome(t, "P0.3: behind Commit", j, k, sectorOf(20+k))
	}
	d.Power(nil)
	j = reopened(t, d)
	for k := range 10 {
		wantHome(t, "P0.3: behind Open", j, k, sectorOf(20+k))
	}
}

// One slice as the data of several sectors and of several transactions, and slices that overlap.
func TestSharedData(t *testing.T) {
	_, j := opened(t, 64, 16)
	x, y := begin(t, j), begin(t, j)
	one, long := sectorOf(1), dataOf(2, 2048)
	kept := bytes.Clone(long)
	for i := range 3 {
		wantWrite(t, "one slice", x, i, one, api.OK)
		wantWrite(t, "one slice", y, i, one, api.OK)
	}
	wantWrite(t, "one slice, changed", x, 1, append(one[:100:100], one[88:500]...), api.OK)
	for k := range 4 {
		wantWrite(t, "slices that overlap", x, 4+k, long[256*k:256*k+512], api.OK)
	}
	writeOver(one)
	writeOver(long)
	for k := range 4 {
		wantRead(t, "P0.3: slices that overlap", x, 4+k, kept[256*k:256*k+512])
	}
	for i := range 3 {
		wantRead(t, "P0.3: one slice", y, i, sectorOf(1))
	}
	wantRead(t, "P0.3: one slice", x, 0, sectorOf(1))
	wantRead(t, "P0.3: one slice", x, 2, sectorOf(1))
}

// Reads share nothing with the transaction, the journal, other transactions, or each other.
func TestReadAnswersNewMemory(t *testing.T) {
	_, j := opened(t, 64, 16)
	begun(t, j, at(1, 4, 5)...).Commit()
	j.Checkpoint()
	begun(t, j, at(2, 5, 6)...).Commit()
	want := map[int][]byte{3: sectorOf(3000), 4: sectorOf(1000), 5: sectorOf(2000), 6: sectorOf(3001), 7: zeros()}
	x, y := begun(t, j, at(3, 3, 6)...), begun(t, j, at(3, 3, 6)...)
	for range 3 {
		for i, data := range want {
			first, _ := x.Read(i)
			second, _ := x.Read(i)
			writeOver(first)
			writeOver(append(first, 1, 2, 3))
			if !bytes.Equal(second, data) {
				t.Errorf("P0.3: two reads of home sector %d share memory", i)
			}
			writeOver(second)
			wantRead(t, "P0.3: what was read is written over", x, i, data)
			wantRead(t, "P0.3: what was read is written over", y, i, data)
		}
	}
	wantHome(t, "P0.3", j, 3, zeros())
	wantHome(t, "P0.3", j, 6, sectorOf(2001))
	wantCommit(t, "P0.3", x, api.OK)
	for i, data := range want {
		wantHome(t, "P0.3: behind Commit", j, i, data)
	}
}

// What was read stays, whatever becomes of its sector and its transaction, and may be written elsewhere.
func TestReadsStay(t *testing.T) {
	_, j := opened(t, 64, 16)
	begun(t, j, at(1, 4)...).Commit()
	x := begun(t, j, at(2, 5)...)
	theirs, _ := x.Read(4)
	own, _ := x.Read(5)
	wantWrite(t, "what was read", x, 6, theirs, api.OK)
	wantWrite(t, "what was read", x, 4, own, api.OK)
	wantWrite(t, "something else", x, 5, sectorOf(9), api.OK)
	if !bytes.Equal(theirs, sectorOf(1000)) || !bytes.Equal(own, sectorOf(2000)) {
		t.Errorf("P0.3: what was read changes with its sector")
	}
	wantCommit(t, "P0.3", x, api.OK)
	if !bytes.Equal(theirs, sectorOf(1000)) || !bytes.Equal(own, sectorOf(2000)) {
		t.Errorf("P0.3: what was read changes with its transaction")
	}
	writeOver(theirs)
	writeOver(own)
	for i, want := range map[int][]byte{4: sectorOf(2000), 5: sectorOf(9), 6: sectorOf(1000)} {
		wantHome(t, "P0.3: what was read and written is written over", j, i, want)
	}
}
