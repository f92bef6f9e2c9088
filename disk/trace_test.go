package disk_test

import (
	"bytes"
	"slices"
	"testing"

	"coffer/api"
	"coffer/disk"
)

// plain is a disk as the chapter words it: a history that is looked through anew for each question.
type plain struct {
	size   int
	log    []step // the writes, in order
	off    bool
	flying *step
	part   int // that counts for the one in flight
	armed  bool
	n, p   int
	writes int
	lives  int
}

type step struct {
	sector  int
	data    []byte
	durable bool
}

func (m *plain) pending() []int {
	var l []int
	for i := range m.size {
		if slices.ContainsFunc(m.log, func(s step) bool { return s.sector == i && !s.durable }) {
			l = append(l, i)
		}
	}
	return l
}

func (m *plain) data(i int, durable bool) []byte {
	for _, s := range slices.Backward(m.log) {
		if s.sector == i && (s.durable || !durable) {
			return s.data
		}
	}
	return zeros()
}

// operation tells whether the operation succeeds.
func (m *plain) operation() bool {
	if m.armed && m.n == 0 {
		m.off, m.part = true, m.p
		return false
	}
	m.n--
	return true
}

func (m *plain) write(i int, b []byte) api.Errno {
	switch {
	case m.off:
		return api.ErrDead
	case i < 0 || i >= m.size:
		return api.ErrArg
	case len(b) != 512:
		return api.ErrSize
	case !m.operation():
		m.flying = &step{sector: i, data: bytes.Clone(b)}
		return api.ErrDead
	}
	m.log = append(m.log, step{i, bytes.Clone(b), false})
	m.writes++
	return api.OK
}

func (m *plain) flush() api.Errno {
	if m.off || !m.operation() {
		return api.ErrDead
	}
	for k := range m.log {
		m.log[k].durable = true
	}
	return api.OK
}

func (m *plain) power(keep []bool) {
	var l []step
	pending := m.pending()
	for i := range m.size {
		k := slices.Index(pending, i)
		kept := k >= 0 && k < len(keep) && keep[k]
		b := bytes.Clone(m.data(i, !kept))
		if m.flying != nil && m.flying.sector == i {
			copy(b, m.flying.data[:min(512, max(0, m.part))])
		}
		l = append(l, step{i, b, true})
	}
	m.log, m.flying, m.off, m.armed = l, nil, false, false
	m.lives++
}

func (m *plain) copied() *plain {
	c := *m
	c.log = slices.Clone(m.log)
	return &c
}

// wantPlain holds what can be seen of a disk against the plain one.
func wantPlain(t *testing.T, d *disk.Disk, m *plain) {
	t.Helper()
	wantDead(t, d, m.off)
	wantWaiting(t, d, m.pending()...)
	wantLives(t, d, m.lives)
	if d.Writes() != m.writes || d.Len() != m.size {
		t.Errorf("P5.2: Writes is %d, not %d; Len %d, not %d", d.Writes(), m.writes, d.Len(), m.size)
	}
	for i := range m.size {
		if m.off {
			wantNoRead(t, d, i, api.ErrDead)
		} else {
			wantRead(t, d, i, m.data(i, false))
		}
	}
}

func someKeep(next func() uint64) []bool {
	keep := make([]bool, next()%7)
	for k := range keep {
		keep[k] = next()%2 == 0
	}
	return keep
}

// stepBoth does the same to both, and holds the answers against each other.
func stepBoth(t *testing.T, next func() uint64, d *disk.Disk, m *plain) {
	t.Helper()
	i := int(next()%8) * 5
	switch c := next() % 20; {
	case c < 10:
		size := 512
		if next()%16 == 0 {
			size += int(next()%3) - 1
		}
		b := dataOf(int(next()%1000), size)
		if got, want := d.Write(i, b), m.write(i, b); got != want {
			t.Errorf("P5.1: Write(%d, %d bytes): %d, not %d", i, size, got, want)
		}
		writeOver(b)
	case c < 13:
		if got, want := d.Flush(), m.flush(); got != want {
			t.Errorf("P5.1: Flush: %d, not %d", got, want)
		}
	case c < 17:
		n, part := int(next()%9)-1, int(next()%600)-50
		d.Arm(n, part)
		m.armed, m.n, m.p = n >= 0, n, part
	default:
		keep := someKeep(next)
		d.Power(keep)
		m.power(keep)
	}
}

// Long rows of calls, with copies on the way that are gone on with in turn.
func TestTraces(t *testing.T) {
	rows := 60
	if testing.Short() {
		rows = 10
	}
	for seed := range rows {
		next := numbers(uint64(seed)*77 + 5)
		disks, plains := []*disk.Disk{newDisk(t, 33)}, []*plain{{size: 33}}
		for range 120 {
			k := int(next() % uint64(len(disks)))
			stepBoth(t, next, disks[k], plains[k])
			wantPlain(t, disks[k], plains[k])
			if next()%16 == 0 && len(disks) < 4 {
				disks, plains = append(disks, disks[k].Copy()), append(plains, plains[k].copied())
			}
		}
		for k := range disks {
			wantPlain(t, disks[k], plains[k])
		}
		if t.Failed() {
			t.Fatalf("in row %d", seed)
		}
	}
}
