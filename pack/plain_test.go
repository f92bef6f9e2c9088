package pack_test

import (
	"bytes"
	"crypto/sha256"
	"encoding/binary"
	"maps"
	"slices"

	"coffer/api"
)

const (
	head    = 46   // bytes of a frame ahead of its data
	longest = 4200 // bytes of data
	room    = 8192 // bytes of a pack
	long    = 16   // sectors of a pack
	packs   = 64
)

// plainFrame is what chapter 10 says of data of any length.
func plainFrame(key api.ID, data []byte) []byte {
	sum := sha256.Sum256(append(key[:], data...))
	size := binary.BigEndian.AppendUint32(nil, uint32(len(data)))
	return bytes.Join([][]byte{{199, 70}, size, sum[:8], key[:], data}, nil)
}

// numbers gives a row of numbers that looks random and is the same in every run.
func numbers(seed uint64) func() uint64 {
	seed = seed*0x9e3779b97f4a7c15 + 1
	return func() uint64 {
		seed ^= seed << 13
		seed ^= seed >> 7
		seed ^= seed << 17
		return seed >> 11
	}
}

// dataOf is n bytes that tell which seed they are of.
func dataOf(seed, n int) []byte {
	next := numbers(uint64(seed) + 1)
	b := make([]byte, n)
	for i := range b {
		b[i] = byte(next())
	}
	return b
}

func sectorOf(seed int) []byte { return dataOf(seed+1000000, 512) }

func keyOf(n int) api.ID {
	return api.ID{0: byte(n), 5: 99, 17: byte(n >> 8), 31: byte(n >> 16)}
}

// record is what was added at a place, and whether it was dropped.
type record struct {
	key  api.ID
	data []byte
	gone bool
}

// box is what a pack must be: its first sector, its bytes in use, how many of them are live, and its frames in order.
type box struct {
	start  int
	bytes  []byte
	live   int
	frames []api.Framed
}

// shelf is all that must be: the packs by their numbers, what was added by its place as long as its pack is there, and
// what is in the sectors that are allocated for something else.
type shelf struct {
	homes   int
	boxes   map[int]box
	records map[api.Place]record
	others  map[int][]byte
}

func newShelf(homes int) shelf {
	return shelf{homes, map[int]box{}, map[api.Place]record{}, map[int][]byte{}}
}

// clone shares what is never changed, but replaced.
func (s shelf) clone() shelf {
	return shelf{s.homes, maps.Clone(s.boxes), maps.Clone(s.records), maps.Clone(s.others)}
}

// allocated are the home sectors that may not be taken.
func (s shelf) allocated() []bool {
	l := make([]bool, s.homes)
	for i := range 4 {
		l[i] = true
	}
	for i := range s.others {
		l[i] = true
	}
	for _, b := range s.boxes {
		for i := range long {
			l[b.start+i] = true
		}
	}
	return l
}

// gap is the first of the first 16 adjacent home sectors that are free, or 0.
func (s shelf) gap() int {
	l := s.allocated()
	for i := 4; i+long <= len(l); i++ {
		if !slices.Contains(l[i:i+long], true) {
			return i
		}
	}
	return 0
}

// choice is the pack into which a frame of so many bytes goes, which may be one that does not exist, and where that would
// start. It is no pack (-1) if there is no room.
func (s shelf) choice(size, but int, makes bool) (n, start int) {
	for n := range packs {
		if b, ok := s.boxes[n]; ok && n != but && len(b.bytes)+size <= room {
			return n, b.start
		}
	}
	for n := range packs {
		if _, ok := s.boxes[n]; !ok && makes && s.gap() > 0 {
			return n, s.gap()
		}
	}
	return -1, 0
}

// put adds a record to pack n, which starts at start, and returns its place.
func (s shelf) put(n, start int, key api.ID, data []byte) api.Place {
	b, f := s.boxes[n], plainFrame(key, data)
	p := api.Place{Pack: n, At: len(b.bytes), Len: len(f)}
	s.boxes[n] = box{
		start:  start,
		bytes:  slices.Concat(b.bytes, f),
		live:   b.live + len(f),
		frames: slices.Concat(b.frames, []api.Framed{{Key: key, At: p.At, Len: p.Len}}),
	}
	s.records[p] = record{key: key, data: bytes.Clone(data)}
	return p
}

// drop takes what is live at p, whether there is a frame or not.
func (s shelf) drop(p api.Place) {
	if r, ok := s.records[p]; ok {
		r.gone = true
		s.records[p] = r
	}
	b := s.boxes[p.Pack]
	b.live -= p.Len
	s.boxes[p.Pack] = b
	if b.live == 0 {
		delete(s.boxes, p.Pack)
		maps.DeleteFunc(s.records, func(other api.Place, _ record) bool { return other.Pack == p.Pack })
	}
}

// table is the two sectors of the pack table together.
func (s shelf) table() []byte {
	var b []byte
	for n := range packs {
		m := s.boxes[n]
		for _, v := range []int{m.start, len(m.bytes), m.live, 0} {
			b = binary.BigEndian.AppendUint32(b, uint32(v))
		}
	}
	return b
}

// bitmap is the sector of the space's bits.
func (s shelf) bitmap() []byte {
	b := make([]byte, 512)
	for i, on := range s.allocated() {
		if on {
			b[i/8] |= []byte{1, 2, 4, 8, 16, 32, 64, 128}[i%8]
		}
	}
	return b
}

// places are those of what was added and not dropped, in order.
func (s shelf) places() []api.Place {
	l := slices.SortedFunc(maps.Keys(s.records), func(a, b api.Place) int {
		return (a.Pack*room + a.At) - (b.Pack*room + b.At)
	})
	return slices.DeleteFunc(l, func(p api.Place) bool { return s.records[p].gone })
}
