package tree_test

import (
	"testing"

	"coffer/api"
	"coffer/space"
	"coffer/tree"
)

// row is a wood of two trees, and the other sectors that are allocated, as the transaction sees them and as they were committed.
type row struct {
	*wood
	next       func() uint64
	taken      []int
	lastTaken  []int
	mayBeShort int // how many calls were refused for want of room
}

// change makes a Put or a Drop that may find no room. If it does not, nothing else comes of it.
func (r *row) change(i int, key api.ID, drops bool) {
	r.t.Helper()
	before, left, touched, deep := r.sight(), r.left(), r.x.Touched(), r.look(i).depth
	_, there := r.had[i][key]
	v := valOf(int(r.next() % 9999))
	root, e := uint32(0), api.OK
	if drops {
		root, e = tree.Drop(r.x, r.roots[i], key)
	} else {
		root, e = tree.Put(r.x, r.roots[i], key, v)
	}
	switch {
	case e == api.OK && drops && there:
		r.roots[i] = root
		delete(r.had[i], key)
		return
	case e == api.OK && !drops:
		r.roots[i], r.had[i][key] = root, v
		return
	case e == api.ErrNone && drops && !there:
	case e == api.ErrFull && !drops && !there && left <= deep:
		r.mayBeShort++
	case e == api.ErrLong && touched > 40-3*deep-3:
		r.mayBeShort++
	default:
		r.t.Fatalf("P9.1: error %d; a Drop: %v; the key is there: %v; %d sectors left, %d written, Depth %d", e, drops, there, left, touched, deep)
	}
	if root != 0 {
		r.t.Errorf("P0.2: root %d beside error %d", root, e)
	}
	r.wantSight("P0.2: a call that fails", before)
}

func (r *row) ask(i int, key api.ID) {
	r.t.Helper()
	want, there := r.had[i][key]
	if v, e := tree.Get(r.x, r.roots[i], key); v != want || e != api.OK && there || e != api.ErrNone && !there {
		r.t.Fatalf("P9.1: Get(% x): % x, error %d, not % x", key, v, e, want)
	}
	r.wantScan("a row", i, key, int(r.next()%30)-2)
}

// crowd takes sectors that are not the trees', so that few are left, or gives some back.
func (r *row) crowd() {
	r.t.Helper()
	for range r.next() % 40 {
		if i, e := space.Take(r.x, 1); e == api.OK && r.left() >= int(r.next()%6) {
			r.taken = append(r.taken, i)
		} else if e == api.OK {
			r.free(i)
		}
	}
	for range r.next() % 3 {
		if n := len(r.taken); n > 0 && space.Free(r.x, r.taken[n-1], 1) == api.OK {
			r.taken = r.taken[:n-1]
		}
	}
}

func (r *row) end() {
	r.t.Helper()
	switch r.next() % 5 {
	case 0:
		r.abort()
		r.taken = append([]int{}, r.lastTaken...)
	case 1:
		r.power([]bool{r.next()%2 == 0, r.next()%2 == 0, true})
		r.taken = append([]int{}, r.lastTaken...)
	default:
		r.commit()
		r.lastTaken = append([]int{}, r.taken...)
	}
}

func (r *row) step() {
	r.t.Helper()
	i, key := int(r.next()%2), keyOf(int(r.next()%120))
	switch r.next() % 20 {
	case 0, 1, 2:
		r.end()
	case 3:
		r.ask(i, key)
	case 4:
		if r.next()%4 == 0 {
			r.crowd()
		}
	case 5:
		if r.next()%3 == 0 {
			for _, n := range r.taken {
				r.x.Write(n, sectorOf(n))
			}
		}
	case 6, 7, 8, 9, 10, 11:
		r.change(i, key, true)
	default:
		r.change(i, key, false)
	}
	r.check("a row", len(r.taken))
}

// Long rows of calls, held against plain maps.
func TestRows(t *testing.T) {
	t.Parallel()
	rows, short := 60, 0
	if testing.Short() {
		rows = 12
	}
	for seed := range rows {
		r := &row{wood: plantWood(t, 210+seed%5*20, 2), next: numbers(uint64(seed) + 1)}
		for range 400 {
			r.step()
			if t.Failed() {
				t.Fatalf("in row %d", seed)
			}
		}
		r.wantAnswers("a row")
		short += r.mayBeShort
	}
	if short < 20 {
		t.Errorf("only %d calls found no room", short)
	}
}
