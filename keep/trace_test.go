package keep_test

import (
	"strconv"
	"testing"

	"coffer/api"
	"coffer/keep"
	"coffer/tree"
)

// row is a store, and what came of its calls.
type row struct {
	*store
	next        func() uint64
	full, moved int
}

// size is a length of data: small ones, large ones, and those that fill a pack to its last byte.
func (r *row) size() int {
	switch r.next() % 8 {
	case 0:
		return longest - int(r.next()%3)
	case 1:
		return int(r.next() % 4000)
	case 2:
		if b, ok := r.had.boxes[int(r.next()%4)]; ok {
			if left := room - b.used - head + int(r.next()%3) - 1; left >= 0 && left <= longest {
				return left
			}
		}
		return 0
	default:
		return int(r.next() % 900)
	}
}

// prospects tell whether there may be room for a record, and whether there must be. There is for its frame if a pack has
// room as soon as the elder one is dropped, or if 16 adjacent sectors are free then; a new key may need a sector for each
// level of the tree and one more.
func (r *row) prospects(key api.ID, n int) (may, must bool) {
	r.t.Helper()
	owners := r.owners()
	s := r.had.clone()
	old, elder := s.places[key]
	s.drop(key)
	if _, ok := s.boxes[old.Pack]; elder && !ok {
		for i := range long {
			owners[r.starts()[old.Pack]+i] = 0
		}
	}
	free, gap, run := 0, false, 0
	for _, n := range owners {
		run++
		if n > 0 {
			run = 0
		} else {
			free++
		}
		gap = gap || run >= long
	}
	if s.withRoom(head+n, -1) < 0 {
		may, free = gap && s.missing() >= 0, free-long
	} else {
		may = true
	}
	levels, e := tree.Depth(r.x, r.root())
	if e != api.OK {
		r.t.Fatalf("tree.Depth: error %d", e)
	}
	return may, may && (elder || free > levels)
}

func (r *row) setAny() {
	r.t.Helper()
	key, n := keyOf(int(r.next()%90)), r.size()
	may, must := r.prospects(key, n)
	if must {
		r.set(key, dataOf(int(r.next()%9999), n))
		return
	}
	before := r.sight()
	data := dataOf(int(r.next()%9999), n)
	switch e := keep.Set(r.x, key, data); {
	case e == api.OK && may:
		r.had.set(key, data)
	case e == api.ErrFull:
		r.full++
		r.wantSight("a row: P0.2: no room", before)
	default:
		r.t.Fatalf("a row: P12.1: Set of %d bytes: error %d, though there is no room: %v", n, e, !may)
	}
}

// dropAny drops a record, or one that there is not.
func (r *row) dropAny() {
	r.t.Helper()
	key := keyOf(int(r.next() % 90))
	if _, ok := r.had.data[key]; ok {
		r.drop(key)
	} else {
		r.wantFailure("a row", drop(key), api.ErrNone)
		r.wantFailure("a row", get(key), api.ErrNone)
	}
}

func (r *row) end() {
	r.t.Helper()
	switch r.next() % 6 {
	case 0:
		r.abort()
	case 1:
		r.power([]bool{r.next()%2 == 0, r.next()%2 == 0, true})
	default:
		r.commit()
	}
}

func (r *row) step() {
	r.t.Helper()
	switch r.next() % 16 {
	case 0, 1:
		r.end()
	case 2:
		r.wantScan(keyOf(int(r.next()%90)), int(r.next()%50))
	case 3, 4, 5, 6:
		r.dropAny()
	case 7, 8:
		if r.compact() {
			r.moved++
		}
	default:
		r.setAny()
	}
	r.check("a row")
	if r.x.Touched() > 15 {
		r.end()
	}
}

// Long rows of calls, held against a map, and against plain packs. Something else has a few sectors here and there.
func TestRows(t *testing.T) {
	rows := 36
	if testing.Short() {
		rows = 12
	}
	for seed := range rows {
		t.Run(strconv.Itoa(seed), func(t *testing.T) {
			t.Parallel()
			r := &row{store: newStore(t, 60+seed%6*37), next: numbers(uint64(seed) + 1)}
			r.take(20 + seed%7)
			for i := range 60 {
				if _, ok := r.others[i]; ok && i%9 != seed%9 {
					r.give(i)
				}
			}
			r.commit()
			for k := range 400 {
				r.step()
				if k%50 == 0 {
					r.wantRecords("a row")
				}
			}
			r.wantRecords("a row")
			if r.full < 3 && seed%6 < 3 || r.moved < 3 && seed%6 > 1 {
				t.Errorf("the test is wrong: only %d records found no room, and %d were moved", r.full, r.moved)
			}
		})
	}
}

// Many records, in any order, in a tree of three levels: each is there, and each goes.
func TestManyRecords(t *testing.T) {
	t.Parallel()
	for seed := range 3 {
		w := newStore(t, 800)
		order := func(k int) int { return k*[]int{1, 333, 71}[seed]%500 + seed*700 }
		for k := range 500 {
			w.set(keyOf(order(k)), dataOf(k, k*37%400))
			w.rest()
		}
		w.checkAll("many records")
		for k := range 500 {
			if k%3 > 0 {
				w.drop(keyOf(order(k * 7 % 500)))
				w.rest()
			}
		}
		w.checkAll("many records, and fewer")
		for w.compact() {
			w.rest()
		}
		w.commit()
		w.power(nil)
		w.checkAll("many records, compacted")
	}
}
