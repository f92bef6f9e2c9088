package journal

// Where a header holds what.
const (
	countAt   = 8
	countSize = 2
	rowsAt    = 16 // a row for each sector: the number of its home, and the beginning of its data
	homeSize  = 4
	rowSize   = homeSize + tagSize
)

// change is what becomes of a home sector.
type change struct {
	home int
	data sector
}

// headerTag is odd and ringTag is even, so that no sector in the ring is taken for a header, whatever its data is.
func headerTag(turn uint64) uint64 { return turn<<1 | 1 }

func ringTag(turn uint64) uint64 { return turn << 1 }

// header returns the header of the commit of l.
func header(turn uint64, l []change) sector {
	var s sector
	s.setTag(headerTag(turn))
	s.put(countAt, uint64(len(l)), countSize)
	for k, c := range l {
		at := rowsAt + rowSize*k
		s.put(at, uint64(c.home), homeSize)
		copy(s[at+homeSize:], c.data[:tagSize])
	}
	return s
}

// row returns the home and the beginning of the data of the k-th sector, as the header s tells them.
func (s *sector) row(k int) (int, [tagSize]byte) {
	at := rowsAt + rowSize*k
	return int(s.number(at, homeSize)), [tagSize]byte(s[at+homeSize:])
}

// tagged returns s as it stands in the ring; its beginning is in the header.
func (s sector) tagged(turn uint64) sector {
	s.put(0, ringTag(turn), tagSize)
	return s
}
