package pack_test

import (
	"slices"
	"strconv"
	"testing"

	"coffer/api"
	"coffer/pack"
)

// row is a shed, and how often there was no room in it.
type row struct {
	*shed
	next func() uint64
	full int
}

// size is a length of data: small ones, large ones, and those that fill a pack to its last byte.
func (r *row) size() int {
	switch r.next() % 8 {
	case 0:
		return longest - int(r.next()%3)
	case 1:
		return int(r.next() % 4000)
	case 2, 3:
		for n := range packs {
			if b, ok := r.had.boxes[n]; ok && r.next()%2 == 0 {
				if left := room - len(b.bytes) - head + int(r.next()%3) - 1; left >= 0 && left <= longest {
					return left
				}
			}
		}
		return 0
	default:
		return int(r.next() % 900)
	}
}

func (r *row) store() {
	r.t.Helper()
	n, but := r.size(), int(r.next()%6)-1
	key, data := keyOf(int(r.next()%9999)), dataOf(int(r.next()%9999), n)
	makes := r.next()%3 > 0
	c := addBut(key, data, but)
	if makes {
		but, c = -1, add(key, data)
	}
	if m, _ := r.had.choice(n+head, but, makes); m < 0 {
		r.full++
		r.wantFailure("a row", c, api.ErrFull)
	} else if makes {
		r.add(key, data)
	} else {
		r.addBut(key, data, but)
	}
}

// dropAny drops a frame, or another place that may be.
func (r *row) dropAny() {
	r.t.Helper()
	l := r.had.places()
	if len(l) == 0 {
		return
	}
	p := l[r.next()%uint64(len(l))]
	if r.next()%8 == 0 {
		p.At += int(r.next()%100) - 50
		p.Len += int(r.next()%100) - 50
	}
	b := r.had.boxes[p.Pack]
	if p.At < 0 || p.Len < head || p.At+p.Len > len(b.bytes) || p.Len > b.live {
		r.wantFailure("a row", drop(p), api.ErrArg)
		return
	}
	r.drop(p)
}

// ask asks for a place that may be one of a frame, with a key that may be its own.
func (r *row) ask() {
	r.t.Helper()
	l := r.had.places()
	if len(l) == 0 {
		return
	}
	p := l[r.next()%uint64(len(l))]
	want := r.had.records[p]
	if b, e := pack.Get(r.x, p, want.key); e != api.OK || !slices.Equal(b, want.data) {
		r.t.Fatalf("P11.2: Get(%v): %d bytes, error %d", p, len(b), e)
	}
	if b, e := pack.Get(r.x, p, keyOf(10000)); e != api.ErrRot || len(b) > 0 {
		r.t.Fatalf("P11.2: Get(%v) of another key: %d bytes, error %d", p, len(b), e)
	}
	p.Len--
	if p.Len < head {
		wantError(r.t, "a row", r.x, get(p, want.key), api.ErrArg)
	} else {
		wantError(r.t, "a row", r.x, get(p, want.key), api.ErrShort)
	}
}

func (r *row) end() {
	r.t.Helper()
	switch r.next() % 6 {
	case 0:
		r.abort()
	case 1:
		r.power([]bool{r.next()%2 == 0, r.next()%2 == 0, true})
	default:
		r.commit()
	}
}

// takeOrFree takes a sector that is no pack's, or gives one back.
func (r *row) takeOrFree() {
	r.t.Helper()
	i := int(r.next() % uint64(r.had.homes))
	if _, ok := r.had.others[i]; ok {
		r.free(i)
	} else if !r.had.allocated()[i] {
		r.take(i)
	}
}

func (r *row) step() {
	r.t.Helper()
	switch r.next() % 16 {
	case 0, 1:
		r.end()
	case 2:
		r.ask()
	case 3:
		r.takeOrFree()
	case 4, 5, 6, 7, 8:
		r.dropAny()
	default:
		r.store()
	}
	r.check("a row")
	if r.x.Touched() > 20 {
		r.end()
	}
}

// Long rows of calls, held against plain packs.
func TestRows(t *testing.T) {
	rows := 40
	if testing.Short() {
		rows = 12
	}
	for seed := range rows {
		t.Run(strconv.Itoa(seed), func(t *testing.T) {
			t.Parallel()
			r := &row{shed: newShed(t, 40+seed%6*37), next: numbers(uint64(seed) + 1)}
			for k := range 400 {
				r.step()
				if k%50 == 0 {
					r.wantAnswers("a row")
				}
			}
			r.wantAnswers("a row")
			if r.full < 5 {
				t.Errorf("only %d frames found no room", r.full)
			}
		})
	}
}
