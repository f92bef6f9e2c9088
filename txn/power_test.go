package txn_test

import (
	"slices"
	"testing"

	"coffer/api"
	"coffer/disk"
	"coffer/journal"
)

// parts are how many bytes of the sector in flight are written.
func parts() []int { return []int{0, 1, 8, 15, 511, 512} }

// keeps are choices of what survives of so many sectors: all choices if those are few.
func keeps(n int) [][]bool {
	if n > 6 {
		l := [][]bool{nil, slices.Repeat([]bool{true}, n), slices.Repeat([]bool{true, false}, n), slices.Repeat([]bool{false, true}, n)}
		for _, k := range []int{0, 1, n / 2, n - 1} {
			one, other := make([]bool, n), slices.Repeat([]bool{true}, n)
			one[k], other[k] = true, false
			l = append(l, one, other)
		}
		return l
	}
	var l [][]bool
	for choice := range 1 << n {
		keep := make([]bool, n)
		for k := range keep {
			keep[k] = choice>>k&1 == 1
		}
		l = append(l, keep)
	}
	return l
}

// wantAllOrNone holds the home sectors against those before a transaction, or those behind it, if it may or must be there.
func wantAllOrNone(t *testing.T, where string, j *journal.Journal, before [][]byte, l []api.Put, may, must bool) {
	t.Helper()
	want := slices.Clone(before)
	there := 0
	for _, p := range l {
		want[p.Sector] = p.Data
	}
	for _, p := range l {
		if b, _ := j.Read(p.Sector); slices.Equal(b, p.Data) {
			there++
		}
	}
	if there == 0 {
		want = before
	}
	if there > 0 && !may || there == 0 && must {
		t.Fatalf("%s: What follows: %d of %d sectors are there", where, there, len(l))
	}
	for i := range want {
		wantHome(t, where+": What follows", j, i, want[i])
	}
}

// failure is a row of commits, and then one with the power failing on its way; others are begun beside it.
type failure struct {
	size, ring int
	before     [][]api.Put
	l          []api.Put
}

func failures() map[string]failure {
	return map[string]failure{
		"one sector":                    {32, 8, nil, at(1, 3)},
		"two sectors":                   {32, 8, [][]api.Put{at(2, 3, 4)}, at(1, 4, 3)},
		"seven sectors":                 {32, 8, nil, at(1, 9, 3, 5, 20, 21, 0, 7)},
		"a checkpoint first":            {32, 8, [][]api.Put{at(2, 3, 4), at(3, 5, 6)}, at(1, 5, 9, 3)},
		"seven, and a checkpoint first": {32, 8, [][]api.Put{at(2, 3, 4), at(3, 5, 3)}, at(1, 9, 3, 5, 20, 21, 0, 7)},
		"forty sectors":                 {130, 64, nil, putsOf(1, 5, 40)},
		"forty, and a checkpoint first": {130, 64, [][]api.Put{putsOf(2, 20, 40)}, putsOf(1, 5, 40)},
	}
}

// The power fails at each operation of a Commit: behind the next Open all sectors of it are there, or none, and none of those that did not commit.
func TestEveryFailure(t *testing.T) {
	for name, f := range failures() {
		for stop := 0; ; stop++ {
			dead := false
			for _, part := range parts() {
				d, e, before := f.play(t, stop, part)
				dead = d.Dead()
				for _, keep := range keeps(len(d.Waiting())) {
					s := d.Copy()
					s.Power(keep)
					wantAllOrNone(t, name, reopened(t, s), before, f.l, true, e == api.OK)
				}
			}
			if !dead {
				break
			}
		}
	}
}

// play lets the power fail behind so many operations of the Commit; it tells what the Commit answers, and what the homes were before.
func (f failure) play(t *testing.T, stop, part int) (*disk.Disk, api.Errno, [][]byte) {
	t.Helper()
	d, j := opened(t, f.size, f.ring)
	before := slices.Repeat([][]byte{zeros()}, j.Homes())
	for _, l := range f.before {
		wantCommit(t, "before", begun(t, j, l...), api.OK)
		for _, p := range l {
			before[p.Sector] = p.Data
		}
	}
	x := begun(t, j, f.l...)
	begun(t, j, at(7, 3, 4, 5)...).Abort()
	other := begun(t, j, at(8, 3, 4, 5, 10)...)
	d.Arm(stop, part)
	e := x.Commit()
	if d.Dead() != (e == api.ErrDead) || !d.Dead() && e != api.OK {
		t.Fatalf("the power fails behind %d operations: P7.2: Commit: error %d", stop, e)
	}
	wantFinished(t, "the power fails", x)
	if d.Dead() {
		wantNumbers(t, "the power has failed for another one", other, 4, j.Homes())
		wantCommit(t, "the power has failed for another one", other, api.ErrDead)
	} else {
		wantCommit(t, "the power is on", other, api.ErrOrder)
	}
	return d, e, before
}

// A Commit takes the same operations as one Commit of the journal with the sectors in ascending order: whenever the power fails, the same survives.
func TestSameAsTheJournal(t *testing.T) {
	for name, f := range failures() {
		for stop := 0; ; stop++ {
			b := newBench(t, f.size, f.ring)
			for _, l := range append(slices.Clone(f.before), f.l) {
				r := b.begin(api.OK)
				for _, p := range l {
					b.write(r, p.Sector, p.Data)
				}
				if len(b.rows) <= len(f.before) {
					b.commit(r)
				}
			}
			b.d.Arm(stop, 100)
			b.twin.Arm(stop, 100)
			e := b.commit(b.rows[len(b.rows)-1])
			if e == api.OK {
				break
			}
			if e != api.ErrDead || stop > 200 {
				t.Fatalf("%s, the power fails behind %d operations: error %d", name, stop, e)
			}
			b.power(numbers(uint64(stop)))
		}
	}
}

// The power fails with transactions open: they leave no changes, and their journal is closed to them.
func TestPowerFailsWithOpenOnes(t *testing.T) {
	d, j := opened(t, 64, 16)
	begun(t, j, at(1, 3)...).Commit()
	x, none, y := begun(t, j, putsOf(2, 0, 10)...), begin(t, j), begun(t, j, at(3, 3)...)
	d.Power([]bool{true, true, true})
	k := reopened(t, d)
	want := slices.Repeat([][]byte{zeros()}, 46)
	want[3] = sectorOf(1000)
	for i := range want {
		wantHome(t, "What follows", k, i, want[i])
	}
	wantCommit(t, "begun before the failure", x, api.ErrDead)
	wantCommit(t, "begun before the failure, and nothing written", none, api.ErrDead)
	late := begun(t, k, at(4, 4)...)
	wantCommit(t, "begun behind the failure", late, api.OK)
	wantCommit(t, "begun before the failure, and the next journal has committed", y, api.ErrDead)
	wantHome(t, "What follows", k, 3, sectorOf(1000))
	wantHome(t, "What follows", k, 4, sectorOf(4000))
}

// What is answered with OK is durable: no failure behind it takes it away.
func TestDurable(t *testing.T) {
	for _, keep := range [][]bool{nil, {true}, {true, true, true}} {
		d, j := opened(t, 32, 8)
		for k := range 30 {
			l := putsOf(k, k%15, 1+k%7)
			wantCommit(t, "durable", begun(t, j, l...), api.OK)
			begun(t, j, putsOf(100+k, 0, 7)...)
			d.Power(keep)
			j = reopened(t, d)
			for _, p := range l {
				wantHome(t, "What follows", j, p.Sector, p.Data)
			}
		}
	}
}
