package keep_test

import (
	"bytes"
	"crypto/sha256"
	"encoding/binary"
	"maps"
	"slices"

	"coffer/api"
)

const (
	head    = 46   // bytes of a frame ahead of its data
	longest = 4200 // bytes of data
	room    = 8192 // bytes of a pack
	long    = 16   // sectors of a pack
	packs   = 64
)

// numbers gives a row of numbers that looks random and is the same in every run.
func numbers(seed uint64) func() uint64 {
	seed = seed*0x9e3779b97f4a7c15 + 1
	return func() uint64 {
		seed ^= seed << 13
		seed ^= seed >> 7
		seed ^= seed << 17
		return seed >> 11
	}
}

// dataOf is n bytes that tell which seed they are of.
func dataOf(seed, n int) []byte {
	next := numbers(uint64(seed) + 1)
	b := make([]byte, n)
	for i := range b {
		b[i] = byte(next())
	}
	return b
}

func sectorOf(seed int) []byte { return dataOf(seed+1000000, 512) }

// keyOf is another key for each number from 0 to 65,535; the keys do not rise as the numbers do.
func keyOf(n int) api.ID {
	return api.ID{0: byte(n * 37), 5: 99, 9: byte(n >> 8), 31: byte(n)}
}

// plainFrame is what chapter 10 says of a key and data.
func plainFrame(key api.ID, data []byte) []byte {
	sum := sha256.Sum256(append(key[:], data...))
	size := binary.BigEndian.AppendUint32(nil, uint32(len(data)))
	return bytes.Join([][]byte{{199, 70}, size, sum[:8], key[:], data}, nil)
}

// plainVal is a place as the tree must have it.
func plainVal(p api.Place) api.Val {
	var v api.Val
	binary.BigEndian.PutUint32(v[0:], uint32(p.Pack))
	binary.BigEndian.PutUint32(v[4:], uint32(p.At))
	binary.BigEndian.PutUint32(v[8:], uint32(p.Len))
	return v
}

// box is what a pack must be: how many of its bytes are in use, how many of them are live, and its frames in order.
type box struct {
	used, live int
	frames     []api.Framed
}

// shelf is all that must be: the records, where their frames are, and the packs by their numbers.
type shelf struct {
	data   map[api.ID][]byte
	places map[api.ID]api.Place
	boxes  map[int]box
}

func newShelf() shelf {
	return shelf{map[api.ID][]byte{}, map[api.ID]api.Place{}, map[int]box{}}
}

// clone shares what is never changed, but replaced.
func (s shelf) clone() shelf {
	return shelf{maps.Clone(s.data), maps.Clone(s.places), maps.Clone(s.boxes)}
}

// withRoom is the least number of a pack, but not of that of the number but, that has room for size bytes, or -1.
func (s shelf) withRoom(size, but int) int {
	for n := range packs {
		if b, ok := s.boxes[n]; ok && n != but && b.used+size <= room {
			return n
		}
	}
	return -1
}

// missing is the least number that no pack has, or -1.
func (s shelf) missing() int {
	for n := range packs {
		if _, ok := s.boxes[n]; !ok {
			return n
		}
	}
	return -1
}

// add puts the frame of a record into pack n.
func (s shelf) add(n int, key api.ID, data []byte) {
	b, size := s.boxes[n], head+len(data)
	p := api.Place{Pack: n, At: b.used, Len: size}
	s.boxes[n] = box{b.used + size, b.live + size, slices.Concat(b.frames, []api.Framed{{Key: key, At: p.At, Len: size}})}
	s.places[key], s.data[key] = p, bytes.Clone(data)
}

// lose takes the live bytes of a place away.
func (s shelf) lose(p api.Place) {
	b := s.boxes[p.Pack]
	b.live -= p.Len
	s.boxes[p.Pack] = b
	if b.live == 0 {
		delete(s.boxes, p.Pack)
	}
}

// drop takes a record away, if there is one.
func (s shelf) drop(key api.ID) {
	if p, ok := s.places[key]; ok {
		s.lose(p)
		delete(s.places, key)
		delete(s.data, key)
	}
}

func (s shelf) set(key api.ID, data []byte) {
	s.drop(key)
	n := s.withRoom(head+len(data), -1)
	if n < 0 {
		n = s.missing()
	}
	s.add(n, key, data)
}

// sparse is the least number of a pack of which less than half is live, or -1.
func (s shelf) sparse() int {
	for n := range packs {
		if b := s.boxes[n]; 2*b.live < b.used {
			return n
		}
	}
	return -1
}

// compact moves a record, and reports whether it did.
func (s shelf) compact() bool {
	from := s.sparse()
	if from < 0 {
		return false
	}
	for _, f := range s.boxes[from].frames {
		p := api.Place{Pack: from, At: f.At, Len: f.Len}
		if s.places[f.Key] != p {
			continue
		}
		to := s.withRoom(f.Len, from)
		if to < 0 {
			return false
		}
		s.add(to, f.Key, s.data[f.Key])
		s.lose(p)
		return true
	}
	return false
}

func compare(a, b api.ID) int { return bytes.Compare(a[:], b[:]) }

// keys are those of the records, in ascending order.
func (s shelf) keys() []api.ID {
	return slices.SortedFunc(maps.Keys(s.data), compare)
}

// records are those whose keys are not less than from, most at most.
func (s shelf) records(from api.ID, most int) []api.Record {
	var l []api.Record
	for _, key := range s.keys() {
		if compare(key, from) >= 0 && len(l) < most {
			l = append(l, api.Record{Key: key, Data: s.data[key]})
		}
	}
	return l
}

// pairs are those that the tree must have.
func (s shelf) pairs() []api.Pair {
	var l []api.Pair
	for _, key := range s.keys() {
		l = append(l, api.Pair{Key: key, Val: plainVal(s.places[key])})
	}
	return l
}

func sameRecords(a, b []api.Record) bool {
	return slices.EqualFunc(a, b, func(r, s api.Record) bool { return r.Key == s.Key && bytes.Equal(r.Data, s.Data) })
}
