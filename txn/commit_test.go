package txn_test

import (
	"bytes"
	"encoding/binary"
	"slices"
	"strconv"
	"testing"

	"coffer/api"
	"coffer/disk"
	"coffer/journal"
	"coffer/txn"
)

// The chapter's example.
func TestExample(t *testing.T) {
	_, j := opened(t, 64, 16)
	x, y := begin(t, j), begin(t, j)
	wantWrite(t, "the example", x, 3, sectorOf(1), api.OK)
	wantWrite(t, "the example", y, 3, sectorOf(2), api.OK)
	wantCommit(t, "the example: t", x, api.OK)
	wantCommit(t, "the example: u", y, api.ErrOrder)
	wantCommit(t, "the example: u again", y, api.ErrNone)
	wantHome(t, "the example", j, 3, sectorOf(1))
}

func TestCommit(t *testing.T) {
	d, j := opened(t, 200, 64)
	for n := range 41 {
		free, turn := j.Free(), j.Turn()
		l := putsOf(n, n, n)
		wantCommit(t, "Commit", begun(t, j, l...), api.OK)
		if n == 0 {
			continue
		}
		if j.Turn() != turn+1 || free > n && j.Free() != free-n-1 {
			t.Errorf("P7.2: Commit of %d sectors: the journal's Turn goes from %d to %d, and Free from %d to %d", n, turn, j.Turn(), free, j.Free())
		}
		for _, p := range l {
			wantHome(t, "Commit", j, p.Sector, p.Data)
			wantRead(t, "behind Commit", begin(t, j), p.Sector, p.Data)
		}
	}
	want := imageOf(t, d)
	d.Power(nil)
	if got := imageOf(t, d); !slices.EqualFunc(got, want, bytes.Equal) {
		t.Errorf("What follows: what was committed is not durable")
	}
}

func TestCommitOfTheLastData(t *testing.T) {
	_, j := opened(t, 64, 16)
	x := begun(t, j, at(1, 5, 3, 5, 4, 3, 5)...)
	wantCommit(t, "the last data", x, api.OK)
	for i, want := range map[int][]byte{3: sectorOf(1004), 4: sectorOf(1003), 5: sectorOf(1005), 6: zeros()} {
		wantHome(t, "the last data", j, i, want)
	}
}

// Commit of nothing does nothing: the journal's Turn stays, and others can commit.
func TestCommitOfNothing(t *testing.T) {
	d, j := opened(t, 64, 16)
	j.Commit(at(1, 3))
	twin := d.Copy()
	d.Arm(0, 0)
	x := begun(t, j, at(2, 4)...)
	for range 3 {
		none := begin(t, j)
		wantNumbers(t, "Commit of nothing", none, 0, 46)
		wantCommit(t, "Commit of nothing", none, api.OK)
	}
	refused := begin(t, j)
	wantWrite(t, "refused", refused, 46, sectorOf(1), api.ErrArg)
	wantWrite(t, "refused", refused, 4, nil, api.ErrSize)
	wantCommit(t, "Commit of nothing but refusals", refused, api.OK)
	if j.Turn() != 1 || j.Free() != 14 {
		t.Errorf("P7.2: Commit of nothing: the journal's Turn is %d, Free %d", j.Turn(), j.Free())
	}
	wantSame(t, "P7.2: Commit of nothing", d, twin)
	d.Arm(-1, 0)
	wantCommit(t, "behind a Commit of nothing", x, api.OK)
}

// Of transactions side by side the first one that writes commits; behind it, whoever was begun before does not, with sectors written or with none.
func TestSideBySide(t *testing.T) {
	for first := range 4 {
		b := newBench(t, 64, 16)
		for k := range 4 {
			r := b.begin(api.OK)
			b.write(r, 3, sectorOf(k))
			b.write(r, 5+k, sectorOf(k))
		}
		none, empty := b.begin(api.OK), b.begin(api.OK)
		b.wantCommit("none written, and none committed yet", none, api.OK)
		b.wantCommit("the first one", b.rows[first], api.OK)
		writes := b.d.Writes()
		for k, r := range b.rows[:4] {
			if k != first {
				b.wantCommit("behind the first one", r, api.ErrOrder)
				b.wantCommit("behind the first one, again", r, api.ErrNone)
			}
		}
		b.wantCommit("none written, behind the first one", empty, api.ErrOrder)
		b.wantCommit("the first one, again", b.rows[first], api.ErrNone)
		if b.d.Writes() != writes {
			t.Errorf("P7.2: ErrOrder, and %d writes", b.d.Writes()-writes)
		}
		b.readAll()
		late := b.begin(api.OK)
		b.readAll()
		b.write(late, 3, sectorOf(9))
		b.wantCommit("the late one", late, api.OK)
		wantHome(t, "the late one", b.j, 3, sectorOf(9))
	}
}

// It is the journal's Turn that counts, not which of its sectors were committed, nor by whom.
func TestOrder(t *testing.T) {
	_, j := opened(t, 64, 16)
	x, none := begun(t, j, at(1, 3)...), begin(t, j)
	j.Commit(at(2, 40))
	wantCommit(t, "a commit of other sectors, past all transactions", x, api.ErrOrder)
	wantCommit(t, "a commit of other sectors, past all transactions", none, api.ErrOrder)
	x = begun(t, j, at(3, 3)...)
	j.Commit(nil)
	j.Checkpoint()
	wantCommit(t, "a checkpoint", x, api.OK)
	x = begun(t, j, at(4, 3)...)
	begun(t, j, at(5, 3)...).Abort()
	begin(t, j).Commit()
	wantCommit(t, "an Abort, and a Commit of nothing", x, api.OK)
	x = begun(t, j, at(6, 3)...)
	for k := range 20 {
		wantCommit(t, "others", begun(t, j, at(7+k, 3)...), api.OK)
	}
	wantCommit(t, "twenty others", x, api.ErrOrder)
	wantHome(t, "twenty others", j, 3, sectorOf(26000))
}

// A Commit that is refused leaves the journal as it was: others that were begun before can still commit.
func TestBehindARefusal(t *testing.T) {
	for where, c := range refusals(t) {
		turn, free, writes := c.j.Turn(), c.j.Free(), c.d.Writes()
		x, other := begun(t, c.j, c.l...), begun(t, c.j)
		wantCommit(t, where, x, c.want)
		if c.j.Turn() != turn || c.j.Free() != free || c.d.Writes() != writes {
			t.Errorf("%s: P0.2: the journal's Turn goes from %d to %d, Free from %d to %d", where, turn, c.j.Turn(), free, c.j.Free())
		}
		for _, p := range c.l {
			wantRead(t, where, other, p.Sector, zeros())
		}
		wantCommit(t, where+", and another one that writes nothing", other, api.OK)
	}
}

// refusal is a journal, and sectors with which a Commit of a transaction on it is refused.
type refusal struct {
	d    *disk.Disk
	j    *journal.Journal
	l    []api.Put
	want api.Errno
}

// refusals are the errors that a Commit hands on from a journal that is not closed. (ErrArg and ErrSize come of no list that Write let in.)
func refusals(t *testing.T) map[string]refusal {
	t.Helper()
	rows := map[string]refusal{}
	for _, ring := range []int{8, 9, 39, 40} {
		d, j := opened(t, 200, ring)
		rows["as many sectors as a ring of "+strconv.Itoa(ring)] = refusal{d, j, putsOf(1, 0, ring), api.ErrLong}
	}
	d, j := marked(t, 1, 1<<62-1)
	rows["the last turn"] = refusal{d, j, putsOf(1, 0, 1), api.ErrFull}
	d, j = marked(t, 1<<62, 5)
	j.Commit(putsOf(2, 30, 15))
	rows["the last anchor, and a full ring"] = refusal{d, j, putsOf(1, 0, 1), api.ErrFull}
	return rows
}

// marked is a journal whose anchor has such a number and turn: with a ring of 16 on a disk of 64.
func marked(t *testing.T, number, turn uint64) (*disk.Disk, *journal.Journal) {
	t.Helper()
	d := disk.New(64)
	b := zeros()
	binary.BigEndian.PutUint64(b, number)
	binary.BigEndian.PutUint64(b[8:], turn)
	binary.BigEndian.PutUint32(b[20:], 16)
	binary.BigEndian.PutUint64(b[504:], number)
	if d.Write(int(number%2), b) != api.OK || d.Flush() != api.OK {
		t.Fatalf("the disk has no anchor")
	}
	return d, reopened(t, d)
}

// The errors in their order: finished, then another turn, then those of the journal.
func TestErrorsOfCommitInOrder(t *testing.T) {
	d, j := opened(t, 64, 8)
	long, none, short := begun(t, j, putsOf(1, 0, 8)...), begin(t, j), begun(t, j, at(1, 3)...)
	done := begin(t, j)
	done.Abort()
	j.Commit(at(2, 20))
	wantCommit(t, "another turn, and too long", long, api.ErrOrder)
	long, late := begun(t, j, putsOf(1, 0, 8)...), begun(t, j, at(1, 4)...)
	empty := begin(t, j)
	d.Power(nil)
	wantCommit(t, "finished, another turn, and closed", done, api.ErrNone)
	wantCommit(t, "another turn, and closed", short, api.ErrOrder)
	wantCommit(t, "another turn, and closed, and nothing written", none, api.ErrOrder)
	wantCommit(t, "closed, and too long", long, api.ErrDead)
	wantCommit(t, "closed", late, api.ErrDead)
	wantCommit(t, "closed, and nothing written", empty, api.ErrDead)
	_, k := marked(t, 1, 1<<62-1)
	wantCommit(t, "too long, and the last turn", begun(t, k, putsOf(1, 0, 16)...), api.ErrLong)
	wantCommit(t, "the last turn, and nothing written", begin(t, k), api.OK)
}

// The sectors stand in the ring in ascending order, with one header, whatever the order of the writes.
func TestOrderOnTheDisk(t *testing.T) {
	var rows [][]int
	for _, n := range []int{1, 2, 3, 12, 40} {
		up := make([]int, n)
		for k := range up {
			up[k] = k*131/n + 1
		}
		down := slices.Clone(up)
		slices.Reverse(down)
		mixed := slices.Clone(up)
		next := numbers(uint64(n))
		for k := range mixed {
			l := int(next() % uint64(n))
			mixed[k], mixed[l] = mixed[l], mixed[k]
		}
		rows = append(rows, up, down, mixed, slices.Concat(mixed, up, down[:n/2]))
	}
	for _, homes := range rows {
		d, j := opened(t, 200, 64)
		l := at(1, homes...)
		writes := d.Writes()
		wantCommit(t, "order on the disk", begun(t, j, l...), api.OK)
		wantRing(t, d, l)
		if n := homesIn(l); d.Writes()-writes != n+2 || j.Free() != 63-n || j.Turn() != 1 {
			t.Errorf("P7.2: one Commit of %d sectors: %d writes, Free %d, Turn %d", n, d.Writes()-writes, j.Free(), j.Turn())
		}
	}
}

func homesIn(l []api.Put) int {
	m := map[int]bool{}
	for _, p := range l {
		m[p.Sector] = true
	}
	return len(m)
}

// wantRing holds the beginning of a ring against the commit of turn 1 with the last data of each sector of l.
func wantRing(t *testing.T, d *disk.Disk, l []api.Put) {
	t.Helper()
	image := imageOf(t, d)
	head := image[2]
	k := 0
	for i := range 134 {
		var data []byte
		for _, p := range l {
			if p.Sector == i {
				data = p.Data
			}
		}
		if data == nil {
			continue
		}
		home := int(binary.BigEndian.Uint32(head[16+12*k:]))
		if home != i || !bytes.Equal(head[20+12*k:28+12*k], data[:8]) || !bytes.Equal(image[3+k][8:], data[8:]) {
			t.Fatalf("P7.2: the %d-th sector in the ring is home sector %d, not %d", k, home, i)
		}
		k++
	}
	if n := int(binary.BigEndian.Uint16(head[8:])); n != k {
		t.Errorf("P7.2: a commit of %d sectors, not %d", n, k)
	}
}

func TestAbort(t *testing.T) {
	d, j := opened(t, 64, 16)
	j.Commit(at(1, 3))
	twin := d.Copy()
	other := begun(t, j, at(3, 4)...)
	for n := range 41 {
		begun(t, j, putsOf(2, 0, n)...).Abort()
	}
	wantSame(t, "P7.2: Abort", d, twin)
	if j.Turn() != 1 || j.Free() != 14 {
		t.Errorf("P7.2: Abort: the journal's Turn is %d, Free %d", j.Turn(), j.Free())
	}
	wantHome(t, "P7.2: Abort", j, 3, sectorOf(1000))
	wantCommit(t, "behind Abort", other, api.OK)
	wantHome(t, "P7.2: Abort", j, 0, zeros())
}

// Transactions on two journals, by turns: the turn of one is none of the other.
func TestTwoJournals(t *testing.T) {
	_, j := opened(t, 64, 16)
	d, k := opened(t, 64, 16)
	for round := range 20 {
		x, y := begun(t, j, at(round, 3)...), begun(t, k, at(100+round, 3)...)
		other := begun(t, k, at(200+round, 4)...)
		wantCommit(t, "two journals", x, api.OK)
		wantCommit(t, "two journals", y, api.OK)
		wantCommit(t, "two journals", other, api.ErrOrder)
		wantHome(t, "two journals", j, 3, sectorOf(1000*round))
		wantHome(t, "two journals", k, 3, sectorOf(1000*(100+round)))
		wantHome(t, "two journals", k, 4, zeros())
	}
	x := begun(t, j, at(50, 3)...)
	d.Power(nil)
	wantCommit(t, "the other one is closed", x, api.OK)
}

// A transaction as long as a journal lets, again and again, so that commits make checkpoints and go round the ring.
func TestLongRow(t *testing.T) {
	for _, c := range []struct{ size, ring int }{{32, 8}, {64, 16}, {200, 64}} {
		b := newBench(t, c.size, c.ring)
		most := min(40, c.ring-1, b.j.Homes())
		for k := range 60 {
			r := b.begin(api.OK)
			n := 1 + k*5%most
			for i := range n {
				b.write(r, (n-i)*7%b.j.Homes(), sectorOf(k*50+i))
			}
			b.wantCommit("a long row", r, api.OK)
			b.rows = nil
		}
		b.begin(api.OK)
		b.readAll()
	}
}

// P0.5: what comes of a row of calls is the same each time, sectors and all.
func TestSameEachTime(t *testing.T) {
	once := func() (*disk.Disk, *txn.Tx) {
		d, j := opened(t, 200, 64)
		for k := range 5 {
			begun(t, j, putsOf(k, 3*k, 40)...).Commit()
		}
		return d, begun(t, j, putsOf(9, 0, 5)...)
	}
	d, x := once()
	for range 10 {
		other, y := once()
		wantSame(t, "P0.5", other, d)
		wantNumbers(t, "P0.5", y, x.Touched(), x.Homes())
	}
}
