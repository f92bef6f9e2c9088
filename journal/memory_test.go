package journal_test

import (
	"bytes"
	"slices"
	"testing"

	"coffer/api"
	"coffer/journal"
)

// withRoom is b with foreign bytes in front of it and in its unused capacity; whole is all of that.
func withRoom(b []byte) (whole, given []byte) {
	whole = bytes.Repeat([]byte{165}, len(b)+200)
	copy(whole[100:], b)
	return whole, whole[100 : 100+len(b)]
}

func writeOver(b []byte) {
	b = b[:cap(b)]
	for i := range b {
		b[i] ^= 255
	}
}

// given is a list with foreign elements and bytes about it, and what of it may be written over.
func given(l []api.Put) (list []api.Put, wholeList []api.Put, wholes [][]byte) {
	wholeList = slices.Repeat([]api.Put{{Sector: 77, Data: []byte{1}}}, len(l)+4)
	for k, x := range l {
		whole, data := withRoom(x.Data)
		wholes = append(wholes, whole)
		wholeList[2+k] = api.Put{Sector: x.Sector, Data: data}
	}
	return wholeList[2 : 2+len(l)], wholeList, wholes
}

func samePut(x, y api.Put) bool { return x.Sector == y.Sector && bytes.Equal(x.Data, y.Data) }

// commitAndWriteOver commits a list, and writes over all of it and about it.
func commitAndWriteOver(t *testing.T, j *journal.Journal, l []api.Put, want api.Errno) {
	t.Helper()
	list, wholeList, wholes := given(l)
	beforeList, before := slices.Clone(wholeList), slices.Clone(wholes)
	for k := range before {
		before[k] = bytes.Clone(wholes[k])
	}
	if e := j.Commit(list); e != want {
		t.Errorf("P6.3: Commit: error %d, not %d", e, want)
	}
	if !slices.EqualFunc(wholeList, beforeList, samePut) || !slices.EqualFunc(wholes, before, bytes.Equal) {
		t.Errorf("P0.3: Commit changes what it is handed")
	}
	for _, whole := range wholes {
		writeOver(whole)
	}
	clear(wholeList)
}

func TestCommitKeepsNothing(t *testing.T) {
	b := newBench(t, 64, 16)
	want := slices.Clone(b.homes)
	for k := range 12 {
		l := putsOf(k, 3*k, 1+k%6)
		commitAndWriteOver(t, b.j, l, api.OK)
		for _, x := range l {
			want[x.Sector] = x.Data
		}
		for i := range want {
			wantRead(t, "P0.3: behind Commit", b.j, i, want[i])
		}
		if k%4 == 3 {
			b.j.Checkpoint()
		}
	}
	b.d.Power(nil)
	j := wantOpen(t, "P0.3", b.d)
	for i := range want {
		wantRead(t, "P0.3: behind Open", j, i, want[i])
	}
}

func TestRefusedListsAreLeft(t *testing.T) {
	_, j := committed(t, 64, 16)
	commitAndWriteOver(t, j, putsOf(1, 0, 16), api.ErrLong)
	commitAndWriteOver(t, j, putsOf(1, 44, 3), api.ErrArg)
	commitAndWriteOver(t, j, append(putsOf(1, 4, 3), api.Put{Sector: 9, Data: dataOf(1, 100)}), api.ErrSize)
	commitAndWriteOver(t, j, append(putsOf(1, 4, 3), putsOf(1, 4, 1)...), api.ErrArg)
	for i := range 46 {
		wantRead(t, "P0.2", j, i, zeros())
	}
}

// A commit that fails may have been written all the same: with the data as it was handed in.
func TestFailingCommitKeepsNothing(t *testing.T) {
	l := putsOf(1, 5, 3)
	for stop := range 7 {
		d, j := committed(t, 64, 16, putsOf(9, 4, 3))
		d.Arm(stop, 512)
		commitAndWriteOver(t, j, l, api.ErrDead)
		d.Power([]bool{true, true, true, true})
		k := wantOpen(t, "P0.3", d)
		h := historyFrom(historyOf(46, [][]api.Put{putsOf(9, 4, 3)})[1], [][]api.Put{l})
		for i, want := range h[k.Turn()-1] {
			wantRead(t, "P0.3: behind a Commit that failed", k, i, want)
		}
	}
}

// One slice as the data of several sectors, and lists whose data lies side by side.
func TestSharedData(t *testing.T) {
	b := newBench(t, 64, 16)
	one, row := sectorOf(1), dataOf(2, 2048)
	b.commit([]api.Put{{Sector: 1, Data: one}, {Sector: 2, Data: one}, {Sector: 3, Data: one}}, api.OK)
	b.commit([]api.Put{{Sector: 4, Data: row[:512]}, {Sector: 5, Data: row[512:1024]}, {Sector: 6, Data: row[256:768]}}, api.OK)
	b.power(false)
	b.open(api.OK)
}

// Reads of a sector that is in the ring, and of one that is at home, share nothing with the journal or each other.
func TestReadAnswersNewMemory(t *testing.T) {
	b := newBench(t, 64, 16)
	b.commit(putsOf(1, 4, 3), api.OK)
	b.checkpoint(api.OK)
	b.commit(putsOf(2, 6, 3), api.OK)
	for range 3 {
		for i := range 12 {
			first, _ := b.j.Read(i)
			second, _ := b.j.Read(i)
			writeOver(first)
			first = append(first, 1, 2, 3)
			writeOver(first)
			if !bytes.Equal(second, b.homes[i]) {
				t.Errorf("P0.3: two reads of home sector %d share memory", i)
			}
			b.wantAll("P0.3: what was read is written over")
		}
		b.checkpoint(api.OK)
	}
	b.power(false)
	b.open(api.OK)
}

// What was read stays, whatever becomes of its sector, and may be committed elsewhere.
func TestReadsStay(t *testing.T) {
	b := newBench(t, 64, 16)
	b.commit(putsOf(1, 4, 3), api.OK)
	b.checkpoint(api.OK)
	b.commit(putsOf(2, 6, 3), api.OK)
	home, _ := b.j.Read(4)
	ring, _ := b.j.Read(7)
	b.commit(putsOf(3, 4, 5), api.OK)
	b.commit([]api.Put{{Sector: 4, Data: ring}, {Sector: 20, Data: home}}, api.OK)
	b.checkpoint(api.OK)
	if !bytes.Equal(home, putsOf(1, 4, 3)[0].Data) || !bytes.Equal(ring, putsOf(2, 6, 3)[1].Data) {
		t.Errorf("P0.3: what was read changes with its sector")
	}
	writeOver(home)
	writeOver(ring)
	b.wantAll("P0.3: what was read and committed is written over")
}
