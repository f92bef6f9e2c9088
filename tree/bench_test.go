package tree_test

import (
	"bytes"
	"fmt"
	"maps"
	"slices"
	"testing"

	"coffer/api"
	"coffer/disk"
	"coffer/journal"
	"coffer/space"
	"coffer/tree"
	"coffer/txn"
)

// numbers gives a row of numbers that looks random and is the same in every run.
func numbers(seed uint64) func() uint64 {
	seed = seed*0x9e3779b97f4a7c15 + 1
	return func() uint64 {
		seed ^= seed << 13
		seed ^= seed >> 7
		seed ^= seed << 17
		return seed >> 11
	}
}

func zeros() []byte { return make([]byte, 512) }

func sectorOf(seed int) []byte {
	next := numbers(uint64(seed) + 1)
	b := zeros()
	for i := range b {
		b[i] = byte(next())
	}
	return b
}

// keyOf rises with n, from 0 to 65,535.
func keyOf(n int) api.ID {
	return api.ID{1: 200, 3: 7, 16: byte(n >> 8), 24: byte(n), 31: 9}
}

// aheadOf is a key between keyOf(n-1) and keyOf(n).
func aheadOf(n int) api.ID {
	k := keyOf(n)
	k[31]--
	return k
}

func valOf(n int) api.Val {
	var v api.Val
	copy(v[:], sectorOf(n))
	return v
}

// value is what the tree under test must find, by a key.
type value = map[api.ID]api.Val

// wood is a journal with a space and trees in it, a transaction, and what must be in the trees: as the transaction sees
// it, and as it was committed.
type wood struct {
	t         *testing.T
	d         *disk.Disk
	j         *journal.Journal
	x         *txn.Tx
	roots     []uint32
	had       []value
	lastRoots []uint32
	lastHad   []value
}

func plantWood(t *testing.T, size, trees int) *wood {
	t.Helper()
	w := &wood{t: t, d: disk.New(size), roots: make([]uint32, trees)}
	if e := journal.Format(w.d, 128); e != api.OK {
		t.Fatalf("journal.Format: error %d", e)
	}
	for range trees {
		w.had = append(w.had, value{})
	}
	w.open()
	if e := space.Format(w.x); e != api.OK {
		t.Fatalf("space.Format: error %d", e)
	}
	w.commit()
	return w
}

func (w *wood) open() {
	w.t.Helper()
	j, e := journal.Open(w.d)
	if e != api.OK {
		w.t.Fatalf("journal.Open: error %d", e)
	}
	w.j = j
	w.begin()
}

func (w *wood) begin() {
	w.t.Helper()
	x, e := txn.Begin(w.j)
	if e != api.OK {
		w.t.Fatalf("txn.Begin: error %d", e)
	}
	w.x = x
}

func (w *wood) commit() {
	w.t.Helper()
	if e := w.x.Commit(); e != api.OK {
		w.t.Fatalf("txn.Commit: error %d", e)
	}
	w.lastRoots, w.lastHad = slices.Clone(w.roots), cloned(w.had)
	w.begin()
}

// abort finishes the transaction, and goes back to what was committed.
func (w *wood) abort() {
	w.t.Helper()
	w.x.Abort()
	w.goBack()
	w.begin()
}

// power lets the power fail, and goes back to what was committed.
func (w *wood) power(keep []bool) {
	w.t.Helper()
	w.d.Power(keep)
	w.goBack()
	w.open()
}

func (w *wood) goBack() {
	w.roots, w.had = slices.Clone(w.lastRoots), cloned(w.lastHad)
}

func cloned(l []value) []value {
	var c []value
	for _, v := range l {
		c = append(c, maps.Clone(v))
	}
	return c
}

// copy is another wood on a copy of the disk, as it was committed.
func (w *wood) copy() *wood {
	w.t.Helper()
	c := &wood{t: w.t, d: w.d.Copy(), lastRoots: w.lastRoots, lastHad: w.lastHad}
	c.goBack()
	c.open()
	return c
}

func (w *wood) put(i int, key api.ID, v api.Val) {
	w.t.Helper()
	root, e := tree.Put(w.x, w.roots[i], key, v)
	if e != api.OK {
		w.t.Fatalf("P9.1: Put(% x): error %d", key, e)
	}
	w.roots[i], w.had[i][key] = root, v
}

func (w *wood) drop(i int, key api.ID) {
	w.t.Helper()
	root, e := tree.Drop(w.x, w.roots[i], key)
	if e != api.OK {
		w.t.Fatalf("P9.1: Drop(% x): error %d", key, e)
	}
	w.roots[i] = root
	delete(w.had[i], key)
}

// grow puts the keys of the numbers into tree 0, each in a transaction of its own.
func (w *wood) grow(l ...int) {
	w.t.Helper()
	for _, n := range l {
		w.put(0, keyOf(n), valOf(n))
		w.commit()
	}
}

func (w *wood) write(i int, b []byte) {
	w.t.Helper()
	if e := w.x.Write(i, b); e != api.OK {
		w.t.Fatalf("txn.Write(%d): error %d", i, e)
	}
}

func (w *wood) read(i int) []byte {
	w.t.Helper()
	b, e := w.x.Read(i)
	if e != api.OK {
		w.t.Fatalf("txn.Read(%d): error %d", i, e)
	}
	return b
}

func (w *wood) left() int {
	w.t.Helper()
	n, e := space.Left(w.x)
	if e != api.OK {
		w.t.Fatalf("space.Left: error %d", e)
	}
	return n
}

// leave allocates sectors until no more than n are left, and returns them.
func (w *wood) leave(n int) []int {
	w.t.Helper()
	var l []int
	for w.left() > n {
		i, e := space.Take(w.x, 1)
		if e != api.OK {
			w.t.Fatalf("space.Take: error %d", e)
		}
		l = append(l, i)
	}
	return l
}

// depth is that of tree 0.
func (w *wood) depth() int {
	w.t.Helper()
	n, e := tree.Depth(w.x, w.roots[0])
	if e != api.OK {
		w.t.Fatalf("P9.2: Depth: error %d", e)
	}
	return n
}

// sorted is what a tree must have, in ascending order.
func sorted(had value) []api.Pair {
	var l []api.Pair
	for k, v := range had {
		l = append(l, api.Pair{Key: k, Val: v})
	}
	slices.SortFunc(l, func(a, b api.Pair) int { return bytes.Compare(a.Key[:], b.Key[:]) })
	return l
}

// sight is all that a transaction tells.
type sight struct {
	sectors [][]byte
	touched int
}

func (w *wood) sight() sight {
	w.t.Helper()
	s := sight{touched: w.x.Touched()}
	for i := range w.x.Homes() {
		s.sectors = append(s.sectors, w.read(i))
	}
	return s
}

func (w *wood) wantSight(where string, s sight) {
	w.t.Helper()
	if w.x.Touched() != s.touched {
		w.t.Errorf("%s: %d sectors are written, not %d", where, w.x.Touched(), s.touched)
	}
	for i, b := range w.sight().sectors {
		if !bytes.Equal(b, s.sectors[i]) {
			w.t.Errorf("%s: home sector %d is % x.., not % x..", where, i, b[:72], s.sectors[i][:72])
		}
	}
}

// answer is what a call answers: in words, whether that is zero, and the error.
type answer struct {
	words string
	zero  bool
	e     api.Errno
}

// call is a call of one of the package's functions.
type call struct {
	name string
	do   func(x *txn.Tx, root uint32) answer
}

func get(key api.ID) call {
	return call{"Get", func(x *txn.Tx, root uint32) answer {
		v, e := tree.Get(x, root, key)
		return answer{fmt.Sprint(v), v == api.Val{}, e}
	}}
}

func put(key api.ID, v api.Val) call {
	return call{"Put", func(x *txn.Tx, root uint32) answer {
		r, e := tree.Put(x, root, key, v)
		return answer{fmt.Sprint(r), r == 0, e}
	}}
}

func drop(key api.ID) call {
	return call{"Drop", func(x *txn.Tx, root uint32) answer {
		r, e := tree.Drop(x, root, key)
		return answer{fmt.Sprint(r), r == 0, e}
	}}
}

func scan(from api.ID, most int) call {
	return call{"Scan", func(x *txn.Tx, root uint32) answer {
		l, e := tree.Scan(x, root, from, most)
		return answer{fmt.Sprint(l), len(l) == 0, e}
	}}
}

func length() call {
	return call{"Len", func(x *txn.Tx, root uint32) answer {
		n, e := tree.Len(x, root)
		return answer{fmt.Sprint(n), n == 0, e}
	}}
}

func depth() call {
	return call{"Depth", func(x *txn.Tx, root uint32) answer {
		n, e := tree.Depth(x, root)
		return answer{fmt.Sprint(n), n == 0, e}
	}}
}

// all are calls of all functions.
func all(key api.ID) []call {
	return []call{get(key), put(key, valOf(9)), drop(key), scan(key, 5), length(), depth(), scan(api.ID{}, 1<<40)}
}

// wantError makes a call that must fail.
func wantError(t *testing.T, where string, x *txn.Tx, root uint32, c call, e api.Errno) {
	t.Helper()
	if got := c.do(x, root); got.e != e || !got.zero {
		t.Errorf("%s: %s(root %d): error %d, not %d, and %s", where, c.name, root, got.e, e, got.words)
	}
}

// wantFailure makes a call on tree 0 that must fail, and holds it against P0.2: nothing else comes of it.
func (w *wood) wantFailure(where string, c call, e api.Errno) {
	w.t.Helper()
	before := w.sight()
	wantError(w.t, where, w.x, w.roots[0], c, e)
	w.wantSight(where+": "+c.name+", which fails: P0.2", before)
}

func (w *wood) free(i int) {
	w.t.Helper()
	if e := space.Free(w.x, i, 1); e != api.OK {
		w.t.Fatalf("space.Free(%d): error %d", i, e)
	}
}
