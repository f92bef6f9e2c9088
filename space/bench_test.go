package space_test

import (
	"bytes"
	"math"
	"strconv"
	"testing"

	"coffer/api"
	"coffer/disk"
	"coffer/journal"
	"coffer/space"
	"coffer/txn"
)

// numbers gives a row of numbers that looks random and is the same in every run.
func numbers(seed uint64) func() uint64 {
	seed = seed*0x9e3779b97f4a7c15 + 1
	return func() uint64 {
		seed ^= seed << 13
		seed ^= seed >> 7
		seed ^= seed << 17
		return seed >> 11
	}
}

func sectorOf(seed int) []byte {
	next := numbers(uint64(seed) + 1)
	b := make([]byte, 512)
	for i := range b {
		b[i] = byte(next())
	}
	return b
}

func zeros() []byte { return make([]byte, 512) }

// opened is a new disk with a new journal.
func opened(t *testing.T, size, ring int) (*disk.Disk, *journal.Journal) {
	t.Helper()
	d := disk.New(size)
	if e := journal.Format(d, ring); e != api.OK {
		t.Fatalf("journal.Format of %d sectors, a ring of %d: error %d", size, ring, e)
	}
	return d, reopened(t, d)
}

func reopened(t *testing.T, d *disk.Disk) *journal.Journal {
	t.Helper()
	j, e := journal.Open(d)
	if e != api.OK {
		t.Fatalf("journal.Open: error %d", e)
	}
	return j
}

func begin(t *testing.T, j *journal.Journal) *txn.Tx {
	t.Helper()
	x, e := txn.Begin(j)
	if e != api.OK {
		t.Fatalf("txn.Begin: error %d", e)
	}
	return x
}

func write(t *testing.T, x *txn.Tx, i int, b []byte) {
	t.Helper()
	if e := x.Write(i, b); e != api.OK {
		t.Fatalf("txn.Write(%d): error %d", i, e)
	}
}

func commit(t *testing.T, x *txn.Tx) {
	t.Helper()
	if e := x.Commit(); e != api.OK {
		t.Fatalf("txn.Commit: error %d", e)
	}
}

// formatted is a transaction on a new journal that Format was called with.
func formatted(t *testing.T, size, ring int) *txn.Tx {
	t.Helper()
	_, j := opened(t, size, ring)
	x := begin(t, j)
	want(t, "a new journal", x, format(), 0, api.OK)
	return x
}

// onlyFree is a transaction on a new journal of 46 home sectors of which just these are free. The bits of those that do not exist are clear.
func onlyFree(t *testing.T, free ...int) *txn.Tx {
	t.Helper()
	x := formatted(t, 64, 16)
	b := zeros()
	for i := range 46 {
		b[i/8] |= bitOf(i)
	}
	for _, i := range free {
		b[i/8] &^= bitOf(i)
	}
	write(t, x, 1, b)
	return x
}

// bitOf is the bit of home sector i within its byte.
func bitOf(i int) byte {
	return []byte{1, 2, 4, 8, 16, 32, 64, 128}[i%8]
}

// span is the numbers from first to last.
func span(first, last int) []int {
	var l []int
	for i := first; i <= last; i++ {
		l = append(l, i)
	}
	return l
}

// call is a call of one of the package's functions: what it answers beside an error is a number, too.
type call struct {
	name string
	do   func(x *txn.Tx) (int, api.Errno)
}

func format() call {
	return call{"P8.1: Format()", func(x *txn.Tx) (int, api.Errno) { return 0, space.Format(x) }}
}

func take(n int) call {
	return call{"P8.1: Take(" + strconv.Itoa(n) + ")", func(x *txn.Tx) (int, api.Errno) { return space.Take(x, n) }}
}

func free(start, n int) call {
	return call{"P8.1: Free(" + strconv.Itoa(start) + ", " + strconv.Itoa(n) + ")", func(x *txn.Tx) (int, api.Errno) {
		return 0, space.Free(x, start, n)
	}}
}

// taken answers 1 for an allocated sector.
func taken(i int) call {
	return call{"P8.1: Taken(" + strconv.Itoa(i) + ")", func(x *txn.Tx) (int, api.Errno) {
		on, e := space.Taken(x, i)
		if on {
			return 1, e
		}
		return 0, e
	}}
}

func left() call {
	return call{"P8.1: Left()", func(x *txn.Tx) (int, api.Errno) { return space.Left(x) }}
}

func root(k int) call {
	return call{"P8.2: Root(" + strconv.Itoa(k) + ")", func(x *txn.Tx) (int, api.Errno) {
		v, e := space.Root(x, k)
		return int(v), e
	}}
}

func setRoot(k int, v uint32) call {
	return call{"P8.2: SetRoot(" + strconv.Itoa(k) + ", " + strconv.Itoa(int(v)) + ")", func(x *txn.Tx) (int, api.Errno) {
		return 0, space.SetRoot(x, k, v)
	}}
}

// wrong are calls with an argument that is ErrArg on every journal.
func wrong() []call {
	l := []call{free(1<<62, 1<<62), free(math.MaxInt, math.MaxInt), free(math.MinInt, math.MinInt)}
	for _, n := range []int{math.MinInt, -1, 0, 65, 1 << 32, math.MaxInt} {
		l = append(l, take(n), free(4, n), free(3, n), free(n, n))
	}
	for _, start := range []int{math.MinInt, -1, 0, 1, 2, 3, 4086, 4096, 1 << 32, math.MaxInt - 64, math.MaxInt} {
		l = append(l, free(start, 1), free(start, 64), free(start, 65))
	}
	for _, i := range []int{math.MinInt, -1, 4086, 4095, 4096, 1 << 32, math.MaxInt} {
		l = append(l, taken(i))
	}
	for _, k := range []int{math.MinInt, -1, 16, 127, 128, 1 << 62, math.MaxInt} {
		l = append(l, root(k), setRoot(k, 0), setRoot(k, 5))
	}
	return l
}

// asking are calls with good arguments that change nothing, by the sector that they need.
func asking() map[int][]call {
	return map[int][]call{
		0: {root(0), root(3), root(15)},
		1: {taken(0), taken(3), taken(4), taken(5), left()},
	}
}

// changing are calls that change something, by the sector that they change, if home sector 4 is allocated and 5 is not.
func changing() map[int][]call {
	return map[int][]call{
		0: {setRoot(0, 7), setRoot(15, 1<<32-1)},
		1: {take(1), free(4, 1)},
	}
}

// want makes a call and holds what it answers against what it must.
func want(t *testing.T, where string, x *txn.Tx, c call, v int, e api.Errno) {
	t.Helper()
	if got, err := c.do(x); err != e || got != v {
		t.Errorf("%s: %s: error %d, %d, not %d, %d", where, c.name, err, got, e, v)
	}
}

// sight is all that a transaction tells.
type sight struct {
	sectors [][]byte
	touched int
}

func sightOf(t *testing.T, x *txn.Tx) sight {
	t.Helper()
	var s sight
	for i := range x.Homes() {
		b, e := x.Read(i)
		if e != api.OK {
			t.Fatalf("txn.Read(%d): error %d", i, e)
		}
		s.sectors = append(s.sectors, b)
	}
	s.touched = x.Touched()
	return s
}

// wantSight holds a transaction against what it must tell.
func wantSight(t *testing.T, where string, x *txn.Tx, s sight) {
	t.Helper()
	if x.Touched() != s.touched {
		t.Errorf("%s: %d sectors are written, not %d", where, x.Touched(), s.touched)
	}
	for i, b := range sightOf(t, x).sectors {
		if !bytes.Equal(b, s.sectors[i]) {
			t.Errorf("%s: home sector %d is % x.., not % x..", where, i, b[:72], s.sectors[i][:72])
		}
	}
}

// wantFailure holds a call against the error that it must answer, and against P0.2: nothing else comes of it.
func wantFailure(t *testing.T, where string, x *txn.Tx, c call, e api.Errno) {
	t.Helper()
	before := sightOf(t, x)
	want(t, where, x, c, 0, e)
	wantSight(t, where+": "+c.name+", which fails: P0.2", x, before)
}
