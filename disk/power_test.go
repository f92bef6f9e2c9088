package disk_test

import (
	"testing"

	"coffer/api"
	"coffer/disk"
)

func wantLives(t *testing.T, d *disk.Disk, want int) {
	t.Helper()
	if d.Lives() != want {
		t.Errorf("P5.2: Lives is %d, not %d", d.Lives(), want)
	}
}

// prepared has the sectors 2, 5 and 9 pending, of which 5 and 9 have been durable before, and 20 durable.
func prepared(t *testing.T) *disk.Disk {
	t.Helper()
	d := newDisk(t, 32)
	for _, i := range []int{5, 9, 20} {
		wantWrite(t, d, i, all(byte(i)), api.OK)
	}
	wantFlush(t, d, api.OK)
	for _, i := range []int{9, 2, 5} {
		wantWrite(t, d, i, all(200), api.OK)
		wantWrite(t, d, i, all(byte(100+i)), api.OK)
	}
	wantWaiting(t, d, 2, 5, 9)
	return d
}

// wantPrepared holds a disk that was prepared and then lost its power against what survives.
func wantPrepared(t *testing.T, d *disk.Disk, two, five, nine bool) {
	t.Helper()
	want := func(i int, old byte, kept bool) {
		t.Helper()
		if kept {
			old = byte(100 + i)
		}
		wantRead(t, d, i, all(old))
	}
	want(2, 0, two)
	want(5, 5, five)
	want(9, 9, nine)
	wantRead(t, d, 20, all(20))
	wantWaiting(t, d)
	wantDead(t, d, false)
	if d.Writes() != 9 {
		t.Errorf("P5.2: Writes is %d, not 9", d.Writes())
	}
}

func TestPowerKeeps(t *testing.T) {
	cases := []struct {
		keep            []bool
		two, five, nine bool
	}{
		{nil, false, false, false},
		{[]bool{}, false, false, false},
		{[]bool{true}, true, false, false},
		{[]bool{false}, false, false, false},
		{[]bool{false, true}, false, true, false},
		{[]bool{true, true}, true, true, false},
		{[]bool{false, false, true}, false, false, true},
		{[]bool{true, false, true}, true, false, true},
		{[]bool{true, true, true}, true, true, true},
		{[]bool{false, true, true, true}, false, true, true},
		{[]bool{true, true, true, true, true, true, true}, true, true, true},
		{[]bool{false, false, false, true, true, true, true}, false, false, false},
		{make([]bool, 5000), false, false, false},
	}
	for _, c := range cases {
		d := prepared(t)
		d.Power(c.keep)
		wantPrepared(t, d, c.two, c.five, c.nine)
		wantLives(t, d, 1)
	}
}

// What survived a failure survives the next one as well: it is durable.
func TestPowerTwice(t *testing.T) {
	d := prepared(t)
	d.Power([]bool{true, false, true})
	wantPrepared(t, d, true, false, true)
	d.Power(nil)
	wantPrepared(t, d, true, false, true)
	d.Power([]bool{true, true, true})
	wantPrepared(t, d, true, false, true)
	wantLives(t, d, 3)
	wantWrite(t, d, 5, all(77), api.OK)
	wantWaiting(t, d, 5)
	d.Power(nil)
	wantRead(t, d, 5, all(5))
	wantLives(t, d, 4)
}

func TestFlushedSurvives(t *testing.T) {
	d := prepared(t)
	wantFlush(t, d, api.OK)
	wantWaiting(t, d)
	for range 3 {
		d.Power(nil)
		wantPrepared(t, d, true, true, true)
	}
}

// Before a second flush, a sector goes back to the data of the first one, whatever was written in between.
func TestBackToDurable(t *testing.T) {
	d := newDisk(t, 32)
	for i := range 5 {
		wantWrite(t, d, 31, all(byte(i+1)), api.OK)
		wantWrite(t, d, 0, all(byte(i+1)), api.OK)
		wantFlush(t, d, api.OK)
		wantWrite(t, d, 31, all(100), api.OK)
		wantWrite(t, d, 31, all(101), api.OK)
		wantRead(t, d, 31, all(101))
		d.Power(nil)
		wantRead(t, d, 31, all(byte(i+1)))
		wantRead(t, d, 0, all(byte(i+1)))
	}
}

func TestKeepIsOfTheLastWrite(t *testing.T) {
	d := newDisk(t, 32)
	wantWrite(t, d, 7, all(1), api.OK)
	wantWrite(t, d, 7, all(2), api.OK)
	wantWrite(t, d, 7, all(3), api.OK)
	d.Power([]bool{true})
	wantRead(t, d, 7, all(3))
}

func TestKeepOfMany(t *testing.T) {
	d := newDisk(t, 4096)
	for k := range 4096 {
		i := k * 1367 % 4096
		wantWrite(t, d, i, all(byte(i)|1), api.OK)
	}
	keep := make([]bool, 4096)
	for k := range keep {
		keep[k] = k%3 == 0
	}
	d.Power(keep)
	for i := range 4096 {
		want := zeros()
		if i%3 == 0 {
			want = all(byte(i) | 1)
		}
		wantRead(t, d, i, want)
	}
}

func TestNoDisk(t *testing.T) {
	var none *disk.Disk
	for _, d := range []*disk.Disk{none, {}, new(disk.Disk), disk.New(31)} {
		for range 2 {
			for _, i := range []int{-1, 0, 31, 32, 4096} {
				wantNoRead(t, d, i, api.ErrArg)
				wantWrite(t, d, i, zeros(), api.ErrArg)
				wantWrite(t, d, i, nil, api.ErrArg)
			}
			wantFlush(t, d, api.ErrArg)
			wantDead(t, d, true)
			wantWaiting(t, d)
			wantLives(t, d, 0)
			if d.Len() != 0 || d.Writes() != 0 || d.Copy() != nil {
				t.Errorf("P5.2: no disk: Len %d, Writes %d, Copy %v", d.Len(), d.Writes(), d.Copy())
			}
			d.Arm(0, 512)
			d.Arm(5, 1)
			d.Power(nil)
			d.Power([]bool{true, false, true})
		}
	}
}

func TestChapterExample(t *testing.T) {
	d := newDisk(t, 32)
	wantWrite(t, d, 3, all(1), api.OK)
	wantWaiting(t, d, 3)
	d.Power([]bool{true})
	wantRead(t, d, 3, all(1))
	wantWrite(t, d, 3, all(2), api.OK)
	d.Arm(0, 2)
	wantWrite(t, d, 3, all(3), api.ErrDead)
	d.Power(nil)
	want := all(1)
	want[0], want[1] = 3, 3
	wantRead(t, d, 3, want)
}
