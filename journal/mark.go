package journal

import (
	"coffer/api"
	"coffer/disk"
)

const (
	anchors    = 2 // sectors in front of the ring
	leastHomes = 8

	// limit is what the turn of an anchor stays below. It keeps a header's tag, twice a turn and 1, far from overflow.
	limit = 1 << 62
)

// Where an anchor holds what.
const (
	turnAt       = 8
	turnSize     = 8
	positionAt   = 16
	positionSize = 4
	ringAt       = 20
	ringSize     = 4
)

// mark is where a journal stands: the number of its anchor, the turn and the position of its next commit, and its layout.
type mark struct {
	number   uint64
	turn     uint64
	position uint32
	ring     uint32
}

// fits reports whether d can have a ring of so many sectors. There is no room on a nil disk.
func fits(d *disk.Disk, ring int) bool {
	return ring >= api.LeastLog && ring <= api.MaxLog && d.Len()-anchors-ring >= leastHomes
}

// anchor returns the sector that tells m.
func (m mark) anchor() sector {
	var s sector
	s.setTag(m.number)
	s.put(turnAt, m.turn, turnSize)
	s.put(positionAt, uint64(m.position), positionSize)
	s.put(ringAt, uint64(m.ring), ringSize)
	return s
}

// markOf returns what the anchor s tells, and whether it is valid on d.
func markOf(s sector, d *disk.Disk) (mark, bool) {
	m := mark{
		number:   s.tag(),
		turn:     s.number(turnAt, turnSize),
		position: uint32(s.number(positionAt, positionSize)),
		ring:     uint32(s.number(ringAt, ringSize)),
	}
	known := m.number != 0 && m.turn >= 1 && m.turn < limit
	return m, known && fits(d, int(m.ring)) && m.position < m.ring
}

// ahead returns the position n sectors on from m's, round the end of the ring.
func (m mark) ahead(n int) uint32 {
	return uint32((int(m.position) + n) % int(m.ring))
}

// inRing returns the number of the disk's sector that is n sectors on from m's position.
func (m mark) inRing(n int) int {
	return anchors + int(m.ahead(n))
}

// atHome returns the number of the disk's sector that is home sector i.
func (m mark) atHome(i int) int {
	return anchors + int(m.ring) + i
}
