package journal_test

import (
	"math"
	"testing"

	"coffer/api"
	"coffer/disk"
	"coffer/journal"
)

func TestSizes(t *testing.T) {
	for _, c := range []struct {
		size, ring int
		want       api.Errno
	}{
		{32, 7, api.ErrArg}, {32, 8, api.OK}, {32, 9, api.OK}, {32, 22, api.OK}, {32, 23, api.ErrArg}, {32, 24, api.ErrArg}, {32, 1000, api.ErrArg},
		{64, 54, api.OK}, {64, 55, api.ErrArg},
		{1033, 1023, api.OK}, {1033, 1024, api.ErrArg}, {1034, 1024, api.OK}, {1034, 1025, api.ErrArg}, {1035, 1025, api.ErrArg},
		{4096, 7, api.ErrArg}, {4096, 8, api.OK}, {4096, 1023, api.OK}, {4096, 1024, api.OK}, {4096, 1025, api.ErrArg}, {4096, 4086, api.ErrArg},
		{64, 0, api.ErrArg}, {64, -1, api.ErrArg}, {64, -8, api.ErrArg}, {64, -16, api.ErrArg}, {64, math.MinInt, api.ErrArg}, {64, math.MaxInt, api.ErrArg}, {64, 1<<32 + 16, api.ErrArg},
	} {
		d := newDisk(t, c.size)
		lay(t, d, step{0, sectorOf(1)}, step{1, sectorOf(2)}, step{c.size - 1, sectorOf(3)})
		twin := d.Copy()
		if e := journal.Format(d, c.ring); e != c.want {
			t.Errorf("P6.1: Format of %d sectors, a ring of %d: error %d, not %d", c.size, c.ring, e, c.want)
		}
		if c.want == api.OK {
			play(twin, formatSteps(c.size, c.ring))
		}
		wantSame(t, "P6.1: Format", d, twin)
		if c.want == api.OK {
			wantNumbers(t, "P6.1: Format", benchOn(t, d).j, c.size-2-c.ring, 0, c.ring)
		}
	}
}

func TestFormatOfNoDisk(t *testing.T) {
	for _, d := range []*disk.Disk{nil, {}, disk.New(31)} {
		for _, ring := range []int{math.MinInt, -1, 0, 8, 16, 1025, math.MaxInt} {
			if e := journal.Format(d, ring); e != api.ErrArg {
				t.Errorf("P6.1: Format of no disk: error %d", e)
			}
		}
		if j, e := journal.Open(d); e != api.ErrArg || j != nil {
			t.Errorf("P6.2: Open of no disk: error %d, a journal: %v", e, j != nil)
		}
	}
}

// A disk without power: what is wrong with the arguments is told first.
func TestFormatWithoutPower(t *testing.T) {
	d := newDisk(t, 64)
	d.Arm(0, 0)
	d.Flush()
	for ring, want := range map[int]api.Errno{7: api.ErrArg, 8: api.ErrDead, 54: api.ErrDead, 55: api.ErrArg, 1025: api.ErrArg} {
		if e := journal.Format(d, ring); e != want {
			t.Errorf("P6.1: Format without power, a ring of %d: error %d, not %d", ring, e, want)
		}
	}
	wantNoOpen(t, "without power", d, api.ErrDead)
	d.Power(nil)
	wantNoOpen(t, "an unformatted disk", d, api.ErrNone)
}

// Nothing of an elder journal is left: no commit, no home sector, no anchor with a greater number.
func TestFormatAgain(t *testing.T) {
	for _, ring := range []int{8, 12, 16} {
		b := newBench(t, 64, 16)
		for k := range 30 {
			b.commit(putsOf(k, k, 3), api.OK)
		}
		if e := journal.Format(b.d, ring); e != api.OK {
			t.Errorf("P6.1: Format: error %d", e)
		}
		play(b.twin, formatSteps(64, ring))
		b.wantTwin("P6.1: Format")
		for _, cut := range []bool{false, true} {
			if cut {
				b.power(false)
			}
			b.open(api.OK)
			wantNumbers(t, "P6.1: Format", b.j, 62-ring, 0, ring)
			for i := range 62 - ring {
				wantRead(t, "P6.1: Format", b.j, i, zeros())
			}
		}
	}
}

// A Format that is cut off leaves either no journal, or the elder one, or the new one.
func TestFormatCutOff(t *testing.T) {
	elder := newBench(t, 32, 8)
	for k := range 5 {
		elder.commit(putsOf(k, k, 2), api.OK)
	}
	for stop := range len(formatSteps(32, 9)) + 1 {
		for _, part := range parts() {
			d := elder.d.Copy()
			d.Arm(stop, part)
			journal.Format(d, 9)
			for _, keep := range someKeeps(len(d.Waiting())) {
				c := d.Copy()
				c.Power(keep)
				_, _, want := plainOpen(imageOf(t, c))
				if stop >= 3 && stop < 34 && want != api.ErrNone || stop >= 36 && want != api.OK {
					t.Fatalf("P6.1: Format is cut off behind %d operations: the plain journal answers %d", stop, want)
				}
				if want == api.OK {
					benchOn(t, c)
				} else {
					wantNoOpen(t, "P6.1: Format is cut off", c, want)
				}
			}
		}
	}
}

func TestChapterExample(t *testing.T) {
	b := newBench(t, 64, 16)
	wantNumbers(t, "the example", b.j, 46, 0, 16)
	b.commit(putsOf(1, 5, 2), api.OK)
	wantNumbers(t, "the example", b.j, 46, 1, 13)
}
