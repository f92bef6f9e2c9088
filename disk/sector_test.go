package disk_test

import (
	"bytes"
	"math"
	"slices"
	"testing"

	"coffer/api"
	"coffer/disk"
)

// numbers gives a row of numbers that looks random and is the same in every run.
func numbers(seed uint64) func() uint64 {
	return func() uint64 {
		seed ^= seed << 13
		seed ^= seed >> 7
		seed ^= seed << 17
		return seed
	}
}

// dataOf is n bytes that look random, and others for each seed.
func dataOf(seed, n int) []byte {
	next := numbers(uint64(seed)*8191 + 1)
	b := make([]byte, n)
	for i := range b {
		b[i] = byte(next() >> 20)
	}
	return b
}

func sectorOf(seed int) []byte { return dataOf(seed, 512) }

func zeros() []byte { return make([]byte, 512) }

func all(c byte) []byte { return bytes.Repeat([]byte{c}, 512) }

func newDisk(t *testing.T, n int) *disk.Disk {
	t.Helper()
	d := disk.New(n)
	if d == nil {
		t.Fatalf("P5.1: New(%d): nil", n)
	}
	return d
}

func wantRead(t *testing.T, d *disk.Disk, i int, want []byte) {
	t.Helper()
	if b, e := d.Read(i); e != api.OK || !bytes.Equal(b, want) {
		t.Errorf("P5.1: Read(%d): error %d, %d bytes, not the %d wanted ones", i, e, len(b), len(want))
	}
}

func wantNoRead(t *testing.T, d *disk.Disk, i int, want api.Errno) {
	t.Helper()
	if b, e := d.Read(i); e != want || len(b) != 0 {
		t.Errorf("P5.1: Read(%d): error %d, not %d; %d bytes", i, e, want, len(b))
	}
}

func wantWrite(t *testing.T, d *disk.Disk, i int, b []byte, want api.Errno) {
	t.Helper()
	before := d.Writes()
	if e := d.Write(i, b); e != want {
		t.Errorf("P5.1: Write(%d, %d bytes): error %d, not %d", i, len(b), e, want)
	}
	if want == api.OK {
		before++
	}
	if d.Writes() != before {
		t.Errorf("P5.2: Write(%d, %d bytes): Writes is %d, not %d", i, len(b), d.Writes(), before)
	}
}

func wantFlush(t *testing.T, d *disk.Disk, want api.Errno) {
	t.Helper()
	before := d.Writes()
	if e := d.Flush(); e != want || d.Writes() != before {
		t.Errorf("P5.1: Flush: error %d, not %d; Writes from %d to %d", e, want, before, d.Writes())
	}
}

func wantWaiting(t *testing.T, d *disk.Disk, want ...int) {
	t.Helper()
	if l := d.Waiting(); !slices.Equal(l, want) {
		t.Errorf("P5.2: Waiting is %v, not %v", l, want)
	}
}

func wantDead(t *testing.T, d *disk.Disk, want bool) {
	t.Helper()
	if d.Dead() != want {
		t.Errorf("P5.2: Dead is %v", !want)
	}
}

func TestSizes(t *testing.T) {
	for _, n := range []int{32, 33, 46, 64, 1000, 4095, 4096} {
		if d := newDisk(t, n); d.Len() != n {
			t.Errorf("P5.1: New(%d): Len is %d", n, d.Len())
		}
	}
	for _, n := range []int{math.MinInt, -4096, -32, -1, 0, 1, 31, 4097, 8192, 1 << 32, math.MaxInt} {
		if d := disk.New(n); d != nil {
			t.Errorf("P5.1: New(%d): a disk of %d", n, d.Len())
		}
	}
}

func TestNewDisk(t *testing.T) {
	for _, n := range []int{32, 4096} {
		d := newDisk(t, n)
		wantDead(t, d, false)
		wantWaiting(t, d)
		if d.Writes() != 0 || d.Lives() != 0 {
			t.Errorf("P5.2: a new disk: Writes %d, Lives %d", d.Writes(), d.Lives())
		}
		for i := range n {
			wantRead(t, d, i, zeros())
		}
		d.Power(nil)
		for i := range n {
			wantRead(t, d, i, zeros())
		}
	}
}

func TestNothingFailsUnarmed(t *testing.T) {
	d := newDisk(t, 32)
	for i := range 3000 {
		wantWrite(t, d, i%32, sectorOf(i%50), api.OK)
		wantFlush(t, d, api.OK)
	}
	wantDead(t, d, false)
}

func TestEverySector(t *testing.T) {
	for _, n := range []int{32, 4096} {
		d := newDisk(t, n)
		for i := range n {
			wantWrite(t, d, i, sectorOf(i), api.OK)
		}
		for i := range n {
			wantRead(t, d, i, sectorOf(i))
		}
		wantFlush(t, d, api.OK)
		for i := range n {
			wantRead(t, d, i, sectorOf(i))
		}
	}
}

func TestNoSuchSector(t *testing.T) {
	for _, n := range []int{32, 4096} {
		d := newDisk(t, n)
		for _, i := range []int{math.MinInt, -n, -1, n, n + 1, 2 * n, 1 << 32, math.MaxInt} {
			wantNoRead(t, d, i, api.ErrArg)
			for _, size := range []int{0, 511, 512, 513} {
				wantWrite(t, d, i, dataOf(1, size), api.ErrArg)
			}
			wantWrite(t, d, i, nil, api.ErrArg)
		}
		wantWaiting(t, d)
	}
}

func TestWrongSizes(t *testing.T) {
	d := newDisk(t, 32)
	wantWrite(t, d, 31, sectorOf(1), api.OK)
	for _, i := range []int{0, 5, 31} {
		for _, size := range []int{0, 1, 511, 513, 1024, 5000} {
			wantWrite(t, d, i, dataOf(1, size), api.ErrSize)
		}
		wantWrite(t, d, i, nil, api.ErrSize)
	}
	wantWaiting(t, d, 31)
	wantRead(t, d, 31, sectorOf(1))
	wantRead(t, d, 0, zeros())
}

// A slice whose capacity would do, but whose length does not.
func TestSizeIsTheLength(t *testing.T) {
	d := newDisk(t, 32)
	wantWrite(t, d, 0, dataOf(1, 600)[:511], api.ErrSize)
	wantWrite(t, d, 0, dataOf(1, 512)[:0], api.ErrSize)
	wantWrite(t, d, 0, dataOf(1, 600)[:512], api.OK)
	wantRead(t, d, 0, dataOf(1, 600)[:512])
}

func TestReadIsTheLastWrite(t *testing.T) {
	d := newDisk(t, 32)
	wantWrite(t, d, 3, sectorOf(1), api.OK)
	wantRead(t, d, 3, sectorOf(1))
	wantWrite(t, d, 3, sectorOf(2), api.OK)
	wantRead(t, d, 3, sectorOf(2))
	wantRead(t, d, 2, zeros())
	wantRead(t, d, 4, zeros())
	wantFlush(t, d, api.OK)
	wantRead(t, d, 3, sectorOf(2))
	wantWrite(t, d, 3, sectorOf(3), api.OK)
	wantRead(t, d, 3, sectorOf(3))
	wantWrite(t, d, 3, zeros(), api.OK)
	wantRead(t, d, 3, zeros())
	if d.Writes() != 4 {
		t.Errorf("P5.2: Writes is %d, not 4", d.Writes())
	}
}

func TestWaiting(t *testing.T) {
	d := newDisk(t, 4096)
	wantFlush(t, d, api.OK)
	var want []int
	for _, i := range []int{4095, 0, 256, 17, 255, 1, 2048, 9} {
		wantWrite(t, d, i, sectorOf(i), api.OK)
		want = append(want, i)
		slices.Sort(want)
		wantWaiting(t, d, want...)
	}
	wantWrite(t, d, 17, sectorOf(3), api.OK)
	wantWrite(t, d, 9, zeros(), api.OK)
	wantWaiting(t, d, want...)
	d.Read(30)
	wantWaiting(t, d, want...)
	wantFlush(t, d, api.OK)
	wantWaiting(t, d)
	wantWrite(t, d, 17, sectorOf(3), api.OK)
	wantWaiting(t, d, 17)
}

func TestWaitingOfMany(t *testing.T) {
	d := newDisk(t, 4096)
	var want []int
	for k := range 4096 {
		wantWrite(t, d, k*2731%4096, sectorOf(1), api.OK)
		want = append(want, k)
	}
	wantWaiting(t, d, want...)
}
