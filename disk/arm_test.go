package disk_test

import (
	"math"
	"testing"

	"coffer/api"
	"coffer/disk"
)

// wantOff holds a disk whose power is off against what each call answers then.
func wantOff(t *testing.T, d *disk.Disk) {
	t.Helper()
	waiting := d.Waiting()
	for range 2 {
		wantDead(t, d, true)
		for _, i := range []int{math.MinInt, -1, 0, d.Len() - 1, d.Len(), math.MaxInt} {
			wantNoRead(t, d, i, api.ErrDead)
			wantWrite(t, d, i, all(250), api.ErrDead)
			wantWrite(t, d, i, all(250)[1:], api.ErrDead)
			wantWrite(t, d, i, nil, api.ErrDead)
		}
		wantFlush(t, d, api.ErrDead)
	}
	wantWaiting(t, d, waiting...)
}

func torn(first byte, n int, rest byte) []byte {
	b := all(rest)
	copy(b, all(first)[:n])
	return b
}

func TestArmedWrites(t *testing.T) {
	for n := range 6 {
		d := newDisk(t, 32)
		d.Arm(n, 512)
		for i := range n {
			wantWrite(t, d, i, all(byte(i+1)), api.OK)
			wantDead(t, d, false)
		}
		wantWrite(t, d, n, all(99), api.ErrDead)
		wantOff(t, d)
		if d.Writes() != n || len(d.Waiting()) != n || d.Lives() != 0 {
			t.Errorf("P5.2: Arm(%d): Writes %d, Waiting %v, Lives %d", n, d.Writes(), d.Waiting(), d.Lives())
		}
		d.Power(nil)
		wantLives(t, d, 1)
		for i := range 32 {
			want := zeros()
			if i == n {
				want = all(99)
			}
			wantRead(t, d, i, want)
		}
	}
}

func TestArmedFlushes(t *testing.T) {
	for n := range 6 {
		d := newDisk(t, 32)
		wantWrite(t, d, 4, all(4), api.OK)
		d.Arm(n, 512)
		for range n {
			wantFlush(t, d, api.OK)
		}
		wantFlush(t, d, api.ErrDead)
		wantOff(t, d)
		d.Power(nil)
		if n == 0 {
			wantRead(t, d, 4, zeros())
		} else {
			wantRead(t, d, 4, all(4))
		}
		wantFlush(t, d, api.OK)
	}
}

// A flush that fails makes nothing durable; the pending sectors are still chosen from.
func TestFailingFlush(t *testing.T) {
	for _, keep := range [][]bool{nil, {true}, {false, true}, {true, true, true}, {false, false, true, true}} {
		d := prepared(t)
		d.Arm(0, 512)
		wantFlush(t, d, api.ErrDead)
		wantWaiting(t, d, 2, 5, 9)
		wantOff(t, d)
		d.Power(keep)
		kept := func(k int) bool { return k < len(keep) && keep[k] }
		wantPrepared(t, d, kept(0), kept(1), kept(2))
	}
}

// Writes and flushes are counted in one row; a call that does not pass the checks is none.
func TestWhatIsAnOperation(t *testing.T) {
	d := newDisk(t, 32)
	d.Arm(3, 0)
	for range 10 {
		d.Read(0)
		wantNoRead(t, d, 32, api.ErrArg)
		wantWrite(t, d, -1, all(1), api.ErrArg)
		wantWrite(t, d, 32, all(1), api.ErrArg)
		wantWrite(t, d, 0, nil, api.ErrSize)
		wantWrite(t, d, 0, dataOf(1, 511), api.ErrSize)
		wantWrite(t, d, 0, dataOf(1, 513), api.ErrSize)
		d.Waiting()
		d.Copy()
		d.Dead()
	}
	wantWrite(t, d, 0, all(1), api.OK)
	wantFlush(t, d, api.OK)
	wantWrite(t, d, 0, all(2), api.OK)
	wantWrite(t, d, 32, all(1), api.ErrArg)
	wantWrite(t, d, 1, dataOf(1, 513), api.ErrSize)
	wantDead(t, d, false)
	wantFlush(t, d, api.ErrDead)
	wantOff(t, d)
}

func parts() map[int]int {
	return map[int]int{math.MinInt: 0, -512: 0, -1: 0, 0: 0, 1: 1, 2: 2, 100: 100, 511: 511, 512: 512, 513: 512, 1024: 512, math.MaxInt: 512}
}

func TestPartOfANewSector(t *testing.T) {
	for part, n := range parts() {
		for _, i := range []int{0, 31} {
			d := newDisk(t, 32)
			d.Arm(0, part)
			wantWrite(t, d, i, all(9), api.ErrDead)
			wantWaiting(t, d)
			wantOff(t, d)
			d.Power([]bool{true, true})
			wantRead(t, d, i, torn(9, n, 0))
			wantRead(t, d, 31-i, zeros())
			d.Power(nil)
			wantRead(t, d, i, torn(9, n, 0))
		}
	}
}

func TestPartOfADurableSector(t *testing.T) {
	for part, n := range parts() {
		d := prepared(t)
		d.Arm(0, part)
		wantWrite(t, d, 20, all(30), api.ErrDead)
		wantWaiting(t, d, 2, 5, 9)
		wantOff(t, d)
		d.Power([]bool{true})
		wantRead(t, d, 20, torn(30, n, 20))
		wantRead(t, d, 2, all(102))
		wantRead(t, d, 5, all(5))
		wantRead(t, d, 9, all(9))
	}
}

func TestPartOfAPendingSector(t *testing.T) {
	for part, n := range parts() {
		for _, kept := range []bool{false, true} {
			d := prepared(t)
			d.Arm(0, part)
			wantWrite(t, d, 5, all(30), api.ErrDead)
			wantWaiting(t, d, 2, 5, 9)
			wantOff(t, d)
			d.Power([]bool{false, kept, true})
			rest := byte(5)
			if kept {
				rest = 105
			}
			wantRead(t, d, 5, torn(30, n, rest))
			wantRead(t, d, 2, zeros())
			wantRead(t, d, 9, all(109))
			wantWaiting(t, d)
			d.Power(nil)
			wantRead(t, d, 5, torn(30, n, rest))
		}
	}
}

// The bytes at the sector's beginning are those at the beginning of the data.
func TestPartIsTheBeginning(t *testing.T) {
	for n := range 513 {
		d := newDisk(t, 32)
		wantWrite(t, d, 1, sectorOf(1), api.OK)
		wantFlush(t, d, api.OK)
		d.Arm(0, n)
		wantWrite(t, d, 1, sectorOf(2), api.ErrDead)
		d.Power(nil)
		wantRead(t, d, 1, append(sectorOf(2)[:n], sectorOf(1)[n:]...))
	}
}

func TestArmAnew(t *testing.T) {
	d := newDisk(t, 32)
	d.Arm(1, 5)
	wantWrite(t, d, 0, all(1), api.OK)
	d.Arm(2, 7)
	wantWrite(t, d, 1, all(1), api.OK)
	wantWrite(t, d, 2, all(1), api.OK)
	wantWrite(t, d, 3, all(1), api.ErrDead)
	d.Power(nil)
	wantRead(t, d, 3, torn(1, 7, 0))
	d.Arm(5, 7)
	d.Arm(0, -3)
	wantWrite(t, d, 4, all(1), api.ErrDead)
	d.Power(nil)
	wantRead(t, d, 4, zeros())
	d.Arm(0, -3)
	d.Arm(0, 600)
	wantWrite(t, d, 4, all(1), api.ErrDead)
	d.Power(nil)
	wantRead(t, d, 4, all(1))
}

// What was written of a write in flight stays as it was, whatever is armed while the power is off.
func TestArmWhileOff(t *testing.T) {
	for _, n := range []int{-1, 0, 3} {
		for _, part := range []int{-1, 0, 100, 512} {
			d := newDisk(t, 32)
			d.Arm(0, 9)
			wantWrite(t, d, 4, all(1), api.ErrDead)
			d.Arm(n, part)
			wantOff(t, d)
			d.Power(nil)
			wantRead(t, d, 4, torn(1, 9, 0))
			wantWrite(t, d, 4, all(2), api.OK)
			wantFlush(t, d, api.OK)
			wantWrite(t, d, 4, all(3), api.OK)
			wantFlush(t, d, api.OK)
			wantFlush(t, d, api.OK)
		}
	}
}

func TestNegativeNeverFails(t *testing.T) {
	for _, n := range []int{-1, -2, -512, math.MinInt} {
		d := newDisk(t, 32)
		d.Arm(0, 0)
		d.Arm(n, 100)
		for i := range 600 {
			wantWrite(t, d, i%32, all(1), api.OK)
			wantFlush(t, d, api.OK)
		}
		wantDead(t, d, false)
	}
}

func TestManyOperationsLeft(t *testing.T) {
	for _, n := range []int{1000, 1 << 32, math.MaxInt} {
		d := newDisk(t, 32)
		d.Arm(n, 0)
		for range 500 {
			wantWrite(t, d, 1, all(1), api.OK)
			wantFlush(t, d, api.OK)
		}
		if n == 1000 {
			wantWrite(t, d, 1, all(1), api.ErrDead)
		} else {
			wantWrite(t, d, 1, all(1), api.OK)
		}
	}
}

func TestPowerDisarms(t *testing.T) {
	d := newDisk(t, 32)
	for _, n := range []int{0, 1, 5} {
		d.Arm(n, 512)
		d.Power(nil)
		for range 10 {
			wantWrite(t, d, 1, all(1), api.OK)
			wantFlush(t, d, api.OK)
		}
	}
	wantLives(t, d, 3)
}

// With the power on no sector is in flight, also not the one of an earlier failure.
func TestInFlightOnce(t *testing.T) {
	d := newDisk(t, 32)
	d.Arm(0, 512)
	wantWrite(t, d, 0, all(1), api.ErrDead)
	d.Power(nil)
	wantRead(t, d, 0, all(1))
	wantWrite(t, d, 0, all(2), api.OK)
	wantFlush(t, d, api.OK)
	d.Power(nil)
	wantRead(t, d, 0, all(2))
	d.Arm(0, 512)
	wantFlush(t, d, api.ErrDead)
	d.Power(nil)
	wantRead(t, d, 0, all(2))
	wantLives(t, d, 3)
}

// An armed disk loses its power by Power, too: what is armed then has no effect.
func TestPowerWhileArmed(t *testing.T) {
	d := prepared(t)
	d.Arm(0, 512)
	d.Power([]bool{false, true})
	wantPrepared(t, d, false, true, false)
}

func TestReadTakesNoOperation(t *testing.T) {
	d := prepared(t)
	d.Arm(0, 1)
	for range 20 {
		wantRead(t, d, 9, all(109))
		wantRead(t, d, 20, all(20))
	}
	wantWrite(t, d, 20, all(30), api.ErrDead)
	d.Power(nil)
	wantRead(t, d, 20, torn(30, 1, 20))
}
