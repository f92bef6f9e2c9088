package txn_test

import (
	"slices"
	"testing"

	"coffer/api"
)

// some is one of the transactions, of late ones more often.
func (b *bench) some(next func() uint64) *row {
	if len(b.rows) == 0 {
		return b.begin(api.OK)
	}
	return b.rows[len(b.rows)-1-int(next()%uint64(min(len(b.rows), 6)))]
}

// someWrites writes a few sectors, mostly good ones.
func (b *bench) someWrites(next func() uint64) {
	b.t.Helper()
	r := b.some(next)
	n := 1 + next()%4
	if next()%12 == 0 {
		n = 45
	}
	for range n {
		i, data := int(next()%uint64(b.k.Homes())), sectorOf(int(next()%5000))
		switch next() % 30 {
		case 0:
			data = data[1:]
		case 1:
			i = b.k.Homes() + int(next()%3)
		case 2:
			i = -1 - int(next()%3)
		}
		b.write(r, i, data)
	}
}

// past commits to the journal past all transactions, or empties its ring.
func (b *bench) past(next func() uint64) {
	b.t.Helper()
	l := at(int(next()%5000), int(next()%8), 8)
	if next()%2 == 0 {
		b.j.Checkpoint()
		b.k.Checkpoint()
	} else if e, want := b.j.Commit(l), b.k.Commit(l); e != want {
		b.t.Fatalf("journal.Commit: error %d, and on the twin %d", e, want)
	}
	b.wantAll("past all transactions")
}

// cutOff lets the power fail within a Commit, or behind it.
func (b *bench) cutOff(next func() uint64) {
	b.t.Helper()
	stop, part := int(next()%12), parts()[next()%6]
	b.d.Arm(stop, part)
	b.twin.Arm(stop, part)
	b.commit(b.some(next))
	b.someWrites(next)
	if b.d.Dead() {
		b.readAll()
		begun := api.OK
		if b.k.Commit(nil) != api.OK {
			begun = api.ErrDead
		}
		b.begin(begun)
		b.commit(b.some(next))
	}
	b.power(next)
}

// Long rows of calls on several transactions, held against plain ones, with the power failing now and then.
func TestTraces(t *testing.T) {
	rows := 150
	if testing.Short() {
		rows = 30
	}
	for seed := range rows {
		next := numbers(uint64(seed) + 1)
		ring := []int{8, 9, 12, 20, 41, 45}[seed%6]
		b := newBench(t, ring+60+seed%30, ring)
		for range 60 {
			switch c := next() % 20; {
			case c < 4:
				b.begin(api.OK)
			case c < 11:
				b.someWrites(next)
			case c < 14:
				b.commit(b.some(next))
			case c < 15:
				b.abort(b.some(next))
			case c < 17:
				b.past(next)
			case c < 19:
				b.read(b.some(next), int(next()%100)-5)
			default:
				b.cutOff(next)
			}
			b.rows = slices.Delete(b.rows, 0, max(0, len(b.rows)-8))
		}
		b.readAll()
		if t.Failed() {
			t.Fatalf("in row %d", seed)
		}
	}
}
