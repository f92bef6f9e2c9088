package space_test

import (
	"maps"
	"math"
	"slices"
	"testing"

	"coffer/api"
	"coffer/journal"
	"coffer/txn"
)

// plain is what a space must be, in numbers: of each home sector whether it is allocated.
type plain struct {
	allocated []bool
	roots     [16]uint32
	touched   map[int]int
}

func (p *plain) copy() *plain {
	return &plain{slices.Clone(p.allocated), p.roots, maps.Clone(p.touched)}
}

// room is api.OK if home sector i may be written, and it is written then.
func (p *plain) room(i int) api.Errno {
	if _, again := p.touched[i]; !again && len(p.touched) >= 40 {
		return api.ErrLong
	}
	p.touched[i] = 1
	return api.OK
}

func (p *plain) format() (int, api.Errno) {
	after := p.copy()
	for i := range 4 {
		if e := after.room(i); e != api.OK {
			return 0, e
		}
	}
	*p = plain{make([]bool, len(p.allocated)), [16]uint32{}, after.touched}
	for i := range 4 {
		p.allocated[i] = true
	}
	return 0, api.OK
}

// all reports whether the n sectors from start on exist, and are all allocated, or all free.
func (p *plain) all(start, n int, on bool) bool {
	for i := range n {
		if start >= len(p.allocated)-i || p.allocated[start+i] != on {
			return false
		}
	}
	return true
}

func (p *plain) take(n int) (int, api.Errno) {
	if n < 1 || n > 64 {
		return 0, api.ErrArg
	}
	for start := range p.allocated {
		if !p.all(start, n, false) {
			continue
		}
		e := p.room(1)
		if e != api.OK {
			return 0, e
		}
		for i := range n {
			p.allocated[start+i] = true
		}
		return start, api.OK
	}
	return 0, api.ErrFull
}

func (p *plain) free(start, n int) (int, api.Errno) {
	if n < 1 || n > 64 || start < 4 || !p.all(start, n, true) {
		return 0, api.ErrArg
	}
	e := p.room(1)
	for i := range n {
		if e == api.OK {
			p.allocated[start+i] = false
		}
	}
	return 0, e
}

func (p *plain) taken(i int) (int, api.Errno) {
	if i < 0 || i >= len(p.allocated) {
		return 0, api.ErrArg
	}
	if p.allocated[i] {
		return 1, api.OK
	}
	return 0, api.OK
}

func (p *plain) left() (int, api.Errno) {
	n := 0
	for _, on := range p.allocated {
		if !on {
			n++
		}
	}
	return n, api.OK
}

func (p *plain) root(k int) (int, api.Errno) {
	if k < 0 || k > 15 {
		return 0, api.ErrArg
	}
	return int(p.roots[k]), api.OK
}

func (p *plain) setRoot(k int, v uint32) (int, api.Errno) {
	if k < 0 || k > 15 {
		return 0, api.ErrArg
	}
	e := p.room(0)
	if e == api.OK {
		p.roots[k] = v
	}
	return 0, e
}

// bench is a transaction, and beside it a plain space; and one as it was committed last.
type bench struct {
	t         *testing.T
	j         *journal.Journal
	x         *txn.Tx
	p         *plain
	committed *plain
}

func newBench(t *testing.T, size, ring int) *bench {
	t.Helper()
	_, j := opened(t, size, ring)
	b := &bench{t: t, j: j, x: begin(t, j), p: &plain{allocated: make([]bool, j.Homes()), touched: map[int]int{}}}
	v, e := b.p.format()
	b.want(format(), v, e)
	b.end(true)
	return b
}

func (b *bench) want(c call, v int, e api.Errno) {
	b.t.Helper()
	want(b.t, "a row of calls", b.x, c, v, e)
	if b.x.Touched() != len(b.p.touched) {
		b.t.Errorf("a row of calls: behind %s: %d sectors are written, not %d", c.name, b.x.Touched(), len(b.p.touched))
	}
}

// end commits, or aborts, and goes on.
func (b *bench) end(commits bool) {
	b.t.Helper()
	if commits {
		commit(b.t, b.x)
		b.committed = b.p
	}
	b.x.Abort()
	b.x = begin(b.t, b.j)
	b.p = b.committed.copy()
	clear(b.p.touched)
}

// other writes so many sectors that are not the space's.
func (b *bench) other(n int, next func() uint64) {
	b.t.Helper()
	for range n {
		i := 4 + int(next()%uint64(len(b.p.allocated)-4))
		if e, want := b.x.Write(i, sectorOf(i)), b.p.room(i); e != want {
			b.t.Errorf("a row of calls: txn.Write(%d): error %d, not %d", i, e, want)
		}
	}
}

// odd is a number that is now and then a very strange one.
func odd(n, most int, next func() uint64) int {
	if next()%40 == 0 {
		return []int{math.MinInt, -1, math.MaxInt, 1 << 32, most, most + 1}[next()%6]
	}
	return n
}

func (b *bench) step(next func() uint64) {
	b.t.Helper()
	homes := len(b.p.allocated)
	at, n, k := odd(int(next()%uint64(homes)), homes, next), odd(1+int(next()%12), 64, next), odd(int(next()%16), 16, next)
	if next()%10 == 0 {
		n = odd(1+int(next()%64), 64, next)
	}
	switch next() % 12 {
	case 0, 1, 2:
		v, e := b.p.take(n)
		b.want(take(n), v, e)
	case 3, 4, 5:
		if next()%2 == 0 {
			n = 1 + int(next()%3)
		}
		v, e := b.p.free(at, n)
		b.want(free(at, n), v, e)
	case 6:
		r := uint32(next())
		v, e := b.p.setRoot(k, r)
		b.want(setRoot(k, r), v, e)
	case 7:
		v, e := b.p.root(k)
		b.want(root(k), v, e)
	case 8, 9:
		v, e := b.p.taken(at)
		b.want(taken(at), v, e)
	case 10:
		v, e := b.p.left()
		b.want(left(), v, e)
	default:
		b.seldom(next)
	}
}

func (b *bench) seldom(next func() uint64) {
	b.t.Helper()
	switch next() % 16 {
	case 0:
		v, e := b.p.format()
		b.want(format(), v, e)
	case 1, 2:
		b.other(60, next)
	case 3, 4, 5:
		b.other(3, next)
	case 6, 7:
		b.end(false)
	case 8, 9, 10, 11:
		b.end(true)
	}
}

// wantAll holds each sector, each root and what is left against the plain space.
func (b *bench) wantAll() {
	b.t.Helper()
	for i := range len(b.p.allocated) + 2 {
		v, e := b.p.taken(i - 1)
		b.want(taken(i-1), v, e)
	}
	for k := range 18 {
		v, e := b.p.root(k - 1)
		b.want(root(k-1), v, e)
	}
	v, e := b.p.left()
	b.want(left(), v, e)
}

// Long rows of calls, held against a plain space.
func TestTraces(t *testing.T) {
	rows := 120
	if testing.Short() {
		rows = 30
	}
	for seed := range rows {
		next := numbers(uint64(seed) + 1)
		b := newBench(t, []int{55, 56, 93, 110, 134, 301}[seed%6], 45)
		for range 400 {
			b.step(next)
		}
		b.wantAll()
		if t.Failed() {
			t.Fatalf("in row %d", seed)
		}
	}
}
