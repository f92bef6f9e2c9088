package journal_test

import (
	"slices"
	"testing"

	"coffer/api"
	"coffer/journal"
)

// someList is mostly a list that may be committed.
func someList(next func() uint64, m *plain) []api.Put {
	n := int(next()) % (min(m.ring, 41) + 1)
	if next()%3 > 0 {
		n = 1 + n%4
	}
	var l []api.Put
	for k := range n {
		x := api.Put{Sector: (k*7 + int(next()%3)) % m.homes, Data: sectorOf(int(next() % 5000))}
		switch next() % 120 {
		case 0:
			x.Data = x.Data[1:]
		case 1:
			x.Sector = m.homes + int(next()%3)
		case 2:
			x.Sector = -1 - int(next()%3)
		}
		l = append(l, x)
	}
	return l
}

// cutOff does something on a bench whose power fails on the way, and opens it anew.
func (b *bench) cutOff(next func() uint64) {
	b.t.Helper()
	l := someList(next, b.m)
	first := slices.Clone(b.homes)
	turn := b.m.turn
	b.d.Arm(int(next()%30), parts()[next()%6])
	checkpoint := next()%3 == 0
	e := api.ErrNone
	if checkpoint {
		e = b.j.Checkpoint()
	} else {
		e = b.j.Commit(l)
	}
	if b.d.Dead() && e != api.ErrDead {
		b.t.Fatalf("without power: error %d", e)
	}
	powerBy(next, b.d)
	b.openArmed(next)
	b.twin = b.d.Copy()
	b.open(api.OK)
	n := b.m.turn - turn
	if n > 1 || n == 1 && checkpoint || n == 0 && !checkpoint && len(l) > 0 && e == api.OK {
		b.t.Fatalf("What follows: the turn goes from %d to %d; error %d", turn, b.m.turn, e)
	}
	if n == 1 {
		first = historyFrom(first, [][]api.Put{l})[1]
	}
	for i, want := range first {
		wantRead(b.t, "What follows", b.j, i, want)
	}
}

// openArmed lets the power fail within Open a few times.
func (b *bench) openArmed(next func() uint64) {
	b.t.Helper()
	for range next() % 3 {
		b.d.Arm(int(next()%8), parts()[next()%6])
		if j, e := journal.Open(b.d); b.d.Dead() && (e != api.ErrDead || j != nil) {
			b.t.Fatalf("P6.2: Open without power: error %d", e)
		}
		powerBy(next, b.d)
	}
}

// Long rows of calls, held against the plain journal, with the power failing now and then.
func TestTraces(t *testing.T) {
	rows := 120
	if testing.Short() {
		rows = 20
	}
	for seed := range rows {
		next := numbers(uint64(seed) + 1)
		ring := []int{8, 9, 12, 20, 41, 45}[seed%6]
		b := newBench(t, max(32, ring+20+seed%30), ring)
		for range 60 {
			switch c := next() % 16; {
			case c < 10:
				l := someList(next, b.m)
				b.commit(l, plainError(l, b.m.homes, b.m.ring))
			case c < 12:
				b.checkpoint(api.OK)
			case c < 14:
				b.power(c == 12)
				b.open(api.OK)
			default:
				b.cutOff(next)
			}
		}
		if t.Failed() {
			t.Fatalf("in row %d", seed)
		}
	}
}
