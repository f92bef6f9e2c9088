package disk_test

import (
	"bytes"
	"slices"
	"testing"

	"coffer/api"
	"coffer/disk"
)

// withRoom is b with foreign bytes in front of it and in its unused capacity; whole is all of that.
func withRoom(b []byte) (whole, given []byte) {
	whole = bytes.Repeat([]byte{165}, len(b)+200)
	copy(whole[100:], b)
	return whole, whole[100 : 100+len(b)]
}

func writeOver(b []byte) {
	b = b[:cap(b)]
	for i := range b {
		b[i] ^= 255
	}
}

func TestWriteKeepsNothing(t *testing.T) {
	d := newDisk(t, 32)
	whole, given := withRoom(sectorOf(1))
	wantWrite(t, d, 3, given, api.OK)
	if want, _ := withRoom(sectorOf(1)); !bytes.Equal(whole, want) {
		t.Error("P0.3: Write changes its argument")
	}
	writeOver(whole)
	wantRead(t, d, 3, sectorOf(1))
	wantFlush(t, d, api.OK)
	writeOver(whole[:7])
	wantRead(t, d, 3, sectorOf(1))
	d.Power(nil)
	wantRead(t, d, 3, sectorOf(1))
}

func TestFailingWriteKeepsNothing(t *testing.T) {
	d := newDisk(t, 32)
	whole, given := withRoom(sectorOf(1))
	d.Arm(0, 300)
	wantWrite(t, d, 3, given, api.ErrDead)
	if want, _ := withRoom(sectorOf(1)); !bytes.Equal(whole, want) {
		t.Error("P0.3: a failing Write changes its argument")
	}
	writeOver(whole)
	d.Power(nil)
	writeOver(whole[:7])
	wantRead(t, d, 3, append(sectorOf(1)[:300], zeros()[300:]...))
}

func TestPowerLeavesItsArgument(t *testing.T) {
	d := prepared(t)
	whole := []bool{true, false, true, true, false}
	d.Power(whole[1:3])
	if !slices.Equal(whole, []bool{true, false, true, true, false}) {
		t.Error("P0.3: Power changes its argument")
	}
	clear(whole)
	wantPrepared(t, d, false, true, false)
}

// Reads of a sector that is pending, durable, and never written share nothing with the disk or each other.
func TestReadAnswersNewMemory(t *testing.T) {
	d := prepared(t)
	for _, i := range []int{9, 20, 30} {
		first, _ := d.Read(i)
		second, _ := d.Read(i)
		want := bytes.Clone(first)
		writeOver(first)
		first = append(first, 1, 2, 3)
		writeOver(first)
		if !bytes.Equal(second, want) {
			t.Errorf("P0.3: two reads of sector %d share memory", i)
		}
		wantRead(t, d, i, want)
		wantRead(t, d, i+1, zeros())
	}
	last, _ := d.Read(9)
	wantFlush(t, d, api.OK)
	writeOver(last)
	wantRead(t, d, 9, all(109))
	d.Power(nil)
	wantRead(t, d, 9, all(109))
}

// What was read stays, whatever becomes of its sector.
func TestReadsStay(t *testing.T) {
	d := prepared(t)
	pending, _ := d.Read(9)
	durable, _ := d.Read(20)
	wantWrite(t, d, 9, all(1), api.OK)
	wantWrite(t, d, 20, all(2), api.OK)
	wantFlush(t, d, api.OK)
	d.Arm(0, 100)
	wantWrite(t, d, 20, all(3), api.ErrDead)
	d.Power(nil)
	if !bytes.Equal(pending, all(109)) || !bytes.Equal(durable, all(20)) {
		t.Error("P0.3: what was read changes with its sector")
	}
}

func TestWaitingAnswersNewMemory(t *testing.T) {
	d := prepared(t)
	first, second := d.Waiting(), d.Waiting()
	first = first[:cap(first)]
	for k := range first {
		first[k] = 31
	}
	wantWaiting(t, d, 2, 5, 9)
	wantWrite(t, d, 0, all(1), api.OK)
	if !slices.Equal(second, []int{2, 5, 9}) {
		t.Error("P0.3: Waiting's results share memory")
	}
	wantWaiting(t, d, 0, 2, 5, 9)
	d.Power([]bool{true, false, true})
	wantRead(t, d, 0, all(1))
	wantRead(t, d, 5, all(105))
}

// state tells all that can be seen of a disk whose power is on.
type state struct {
	sectors             [][]byte
	waiting             []int
	writes, lives, size int
}

func stateOf(t *testing.T, d *disk.Disk) state {
	t.Helper()
	s := state{waiting: d.Waiting(), writes: d.Writes(), lives: d.Lives(), size: d.Len()}
	for i := range d.Len() {
		b, e := d.Read(i)
		if e != api.OK {
			t.Errorf("P5.1: Read(%d): error %d", i, e)
		}
		s.sectors = append(s.sectors, b)
	}
	return s
}

func (s state) same(o state) bool {
	return slices.EqualFunc(s.sectors, o.sectors, bytes.Equal) && slices.Equal(s.waiting, o.waiting) && s.writes == o.writes && s.lives == o.lives && s.size == o.size
}

// disturb does all that may be done to a disk.
func disturb(t *testing.T, d *disk.Disk) {
	t.Helper()
	for i := range 32 {
		wantWrite(t, d, i, all(111), api.OK)
	}
	wantFlush(t, d, api.OK)
	for i := range 32 {
		wantWrite(t, d, i, all(112), api.OK)
	}
	d.Power([]bool{true, false, true})
	d.Arm(1, 300)
	wantWrite(t, d, 6, all(113), api.OK)
	wantWrite(t, d, 7, all(114), api.ErrDead)
	d.Power(nil)
	d.Arm(0, 300)
	wantWrite(t, d, 8, all(115), api.ErrDead)
}

func TestCopiesGoOnAlone(t *testing.T) {
	for _, turned := range []bool{false, true} {
		one := prepared(t)
		other := one.Copy()
		if !stateOf(t, one).same(stateOf(t, other)) {
			t.Error("P5.2: a copy is not equal")
		}
		if turned {
			one, other = other, one
		}
		before := stateOf(t, one)
		disturb(t, other)
		wantDead(t, one, false)
		if !stateOf(t, one).same(before) {
			t.Error("P5.2: a disk changes with another one")
		}
		for range 3 {
			wantWrite(t, one, 9, all(109), api.OK)
			wantWrite(t, one, 9, all(109), api.OK)
		}
		again := one.Copy()
		again.Power([]bool{true, true, true})
		wantRead(t, again, 2, all(102))
		one.Power([]bool{false, true})
		wantRead(t, one, 2, zeros())
		wantRead(t, one, 5, all(105))
		wantRead(t, one, 9, all(9))
		wantLives(t, one, 1)
		wantLives(t, other, 2)
	}
}

// A copy of an armed disk is armed, and with one operation fewer for each that was taken.
func TestCopyOfAnArmedDisk(t *testing.T) {
	d := prepared(t)
	d.Arm(3, 77)
	wantFlush(t, d, api.OK)
	c := d.Copy()
	wantFlush(t, d, api.OK)
	wantFlush(t, d, api.OK)
	d.Arm(-1, 0)
	wantFlush(t, c, api.OK)
	wantWrite(t, c, 20, all(21), api.OK)
	wantWrite(t, c, 20, all(22), api.ErrDead)
	wantDead(t, d, false)
	wantFlush(t, d, api.OK)
	c.Power(nil)
	wantRead(t, c, 20, torn(22, 77, 20))
	wantRead(t, d, 20, all(20))
}

// A copy of a disk without power has none, and the same sector in flight.
func TestCopyWhileOff(t *testing.T) {
	d := prepared(t)
	d.Arm(0, 77)
	wantWrite(t, d, 9, all(30), api.ErrDead)
	c := d.Copy()
	d.Power(nil)
	wantRead(t, d, 9, torn(30, 77, 9))
	wantWrite(t, d, 9, all(31), api.OK)
	wantOff(t, c)
	wantWaiting(t, c, 2, 5, 9)
	wantLives(t, c, 0)
	e := c.Copy()
	c.Power([]bool{true, true, true})
	wantRead(t, c, 9, torn(30, 77, 109))
	wantRead(t, c, 5, all(105))
	wantOff(t, e)
	e.Power(nil)
	wantRead(t, e, 9, torn(30, 77, 9))
	wantRead(t, d, 9, all(31))
}

func TestDisksSideBySide(t *testing.T) {
	one, other, none := newDisk(t, 32), newDisk(t, 32), newDisk(t, 4096)
	before := stateOf(t, none)
	disturb(t, one)
	for i := range 32 {
		wantRead(t, other, i, zeros())
	}
	wantWaiting(t, other)
	disturb(t, other)
	if !stateOf(t, none).same(before) {
		t.Error("P0.5: a disk changes with others")
	}
	one.Power(nil)
	other.Power(nil)
	if !stateOf(t, one).same(stateOf(t, other)) {
		t.Error("P0.5: the same calls on two disks have different results")
	}
}
