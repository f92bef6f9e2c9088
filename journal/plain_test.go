package journal_test

import (
	"bytes"
	"encoding/binary"
	"slices"
	"testing"

	"coffer/api"
	"coffer/disk"
)

// step is a write of a disk's sector, or a flush if it has no data.
type step struct {
	sector int
	data   []byte
}

func flush() step { return step{} }

// play takes the steps on d up to the first error.
func play(d *disk.Disk, steps []step) api.Errno {
	for _, s := range steps {
		e := api.OK
		if s.data == nil {
			e = d.Flush()
		} else {
			e = d.Write(s.sector, s.data)
		}
		if e != api.OK {
			return e
		}
	}
	return api.OK
}

func anchorOf(number, turn uint64, position, ring int) []byte {
	b := zeros()
	binary.BigEndian.PutUint64(b, number)
	binary.BigEndian.PutUint64(b[8:], turn)
	binary.BigEndian.PutUint32(b[16:], uint32(position))
	binary.BigEndian.PutUint32(b[20:], uint32(ring))
	binary.BigEndian.PutUint64(b[504:], number)
	return b
}

func headerOf(turn uint64, l []api.Put) []byte {
	b := zeros()
	binary.BigEndian.PutUint64(b, 2*turn+1)
	binary.BigEndian.PutUint16(b[8:], uint16(len(l)))
	for k, x := range l {
		binary.BigEndian.PutUint32(b[16+12*k:], uint32(x.Sector))
		copy(b[20+12*k:28+12*k], x.Data)
	}
	binary.BigEndian.PutUint64(b[504:], 2*turn+1)
	return b
}

func ringOf(turn uint64, data []byte) []byte {
	b := bytes.Clone(data)
	binary.BigEndian.PutUint64(b, 2*turn)
	return b
}

// plain is a journal as the chapter words it: it tells the steps of a call, and takes none itself.
type plain struct {
	homes, ring  int
	number, turn uint64
	position     int
	free         int
	since        []api.Put // what was committed since the last checkpoint, in order
}

func formatSteps(size, ring int) []step {
	steps := []step{{0, zeros()}, {1, zeros()}, flush()}
	for i := 2; i < size; i++ {
		steps = append(steps, step{i, zeros()})
	}
	return append(steps, flush(), step{1, anchorOf(1, 1, 0, ring)}, flush())
}

func storeSteps(turn uint64, position, ring int, l []api.Put) []step {
	at := func(n int) int { return 2 + (position+n)%ring }
	steps := []step{{at(0), zeros()}}
	for k, x := range l {
		steps = append(steps, step{at(1 + k), ringOf(turn, x.Data)})
	}
	return append(steps, flush(), step{at(0), headerOf(turn, l)}, flush())
}

func plainError(l []api.Put, homes, ring int) api.Errno {
	for k, x := range l {
		same := func(y api.Put) bool { return y.Sector == x.Sector }
		if x.Sector < 0 || x.Sector >= homes || slices.ContainsFunc(l[:k], same) {
			return api.ErrArg
		}
		if len(x.Data) != 512 {
			return api.ErrSize
		}
	}
	if len(l) > 40 || len(l) >= ring {
		return api.ErrLong
	}
	return api.OK
}

func (m *plain) commit(l []api.Put) ([]step, api.Errno) {
	if e := plainError(l, m.homes, m.ring); e != api.OK || len(l) == 0 {
		return nil, e
	}
	if m.turn >= 1<<62-1 {
		return nil, api.ErrFull
	}
	var steps []step
	if m.free < len(l)+1 {
		first, e := m.checkpoint()
		if e != api.OK {
			return nil, e
		}
		steps = first
	}
	steps = append(steps, storeSteps(m.turn, m.position, m.ring, l)...)
	m.went(l)
	return steps, api.OK
}

func (m *plain) went(l []api.Put) {
	for _, x := range l {
		m.since = append(m.since, api.Put{Sector: x.Sector, Data: bytes.Clone(x.Data)})
	}
	m.turn++
	m.position = (m.position + len(l) + 1) % m.ring
	m.free -= len(l) + 1
}

func (m *plain) checkpoint() ([]step, api.Errno) {
	if len(m.since) == 0 {
		return nil, api.OK
	}
	if m.number >= 1<<62 {
		return nil, api.ErrFull
	}
	var steps []step
	for i := range m.homes {
		for _, x := range slices.Backward(m.since) {
			if x.Sector == i {
				steps = append(steps, step{2 + m.ring + i, x.Data})
				break
			}
		}
	}
	m.number++
	m.since, m.free = nil, m.ring
	anchor := anchorOf(m.number, m.turn, m.position, m.ring)
	return append(steps, flush(), step{int(m.number % 2), anchor}, flush()), api.OK
}

// plainAnchor tells what a valid anchor says, on a disk of so many sectors.
func plainAnchor(b []byte, size int) (*plain, bool) {
	number, turn := binary.BigEndian.Uint64(b), binary.BigEndian.Uint64(b[8:])
	position, ring := int(binary.BigEndian.Uint32(b[16:])), int(binary.BigEndian.Uint32(b[20:]))
	homes := size - 2 - ring
	if number != binary.BigEndian.Uint64(b[504:]) || number == 0 || turn == 0 || turn >= 1<<62 {
		return nil, false
	}
	if ring < 8 || ring > 1024 || position >= ring || homes < 8 {
		return nil, false
	}
	return &plain{homes: homes, ring: ring, number: number, turn: turn, position: position, free: ring}, true
}

// found tells what the commit at m's position has, if it is valid.
func (m *plain) found(image [][]byte) ([]api.Put, bool) {
	at := func(n int) []byte { return image[2+(m.position+n)%m.ring] }
	h := at(0)
	n := int(binary.BigEndian.Uint16(h[8:]))
	if binary.BigEndian.Uint64(h) != 2*m.turn+1 || binary.BigEndian.Uint64(h[504:]) != 2*m.turn+1 || n < 1 || n > 40 || n >= m.ring {
		return nil, false
	}
	var l []api.Put
	for k := range n {
		if binary.BigEndian.Uint64(at(1+k)) != 2*m.turn {
			return nil, false
		}
		data := append(bytes.Clone(h[20+12*k:28+12*k]), at(1 + k)[8:]...)
		l = append(l, api.Put{Sector: int(binary.BigEndian.Uint32(h[16+12*k:])), Data: data})
	}
	return l, plainError(l, m.homes, m.ring) == api.OK
}

// plainOpen tells what Open does on a disk with such sectors.
func plainOpen(image [][]byte) (*plain, []step, api.Errno) {
	var m *plain
	for _, b := range image[:2] {
		if a, ok := plainAnchor(b, len(image)); ok && (m == nil || a.number > m.number) {
			m = a
		}
	}
	if m == nil {
		return nil, nil, api.ErrNone
	}
	for l, ok := m.found(image); ok; l, ok = m.found(image) {
		m.went(l)
	}
	if len(m.since) > 0 && m.turn >= 1<<62 {
		return nil, nil, api.ErrFull
	}
	steps, e := m.checkpoint()
	if e != api.OK {
		return nil, nil, e
	}
	return m, steps, api.OK
}

func imageOf(t *testing.T, d *disk.Disk) [][]byte {
	t.Helper()
	var image [][]byte
	for i := range d.Len() {
		b, e := d.Read(i)
		if e != api.OK {
			t.Fatalf("disk.Read(%d): error %d", i, e)
		}
		image = append(image, b)
	}
	return image
}
