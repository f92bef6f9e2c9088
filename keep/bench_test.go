package keep_test

import (
	"bytes"
	"encoding/binary"
	"fmt"
	"maps"
	"slices"
	"sync"
	"testing"

	"coffer/api"
	"coffer/disk"
	"coffer/journal"
	"coffer/keep"
	"coffer/pack"
	"coffer/space"
	"coffer/tree"
	"coffer/txn"
)

// store is a journal with a store in it, a transaction, and what must be in the store: as the transaction sees it, and as
// it was committed.
type store struct {
	t      *testing.T
	homes  int
	d      *disk.Disk
	j      *journal.Journal
	x      *txn.Tx
	had    shelf
	last   shelf
	others map[int][]byte // what is in the sectors that something else has
}

// bare is a journal of so many home sectors, and a transaction.
func bare(t *testing.T, homes int) *store {
	t.Helper()
	w := &store{t: t, homes: homes, d: disk.New(homes + 130), had: newShelf(), last: newShelf(), others: map[int][]byte{}}
	if e := journal.Format(w.d, 128); e != api.OK {
		t.Fatalf("journal.Format: error %d", e)
	}
	w.open()
	return w
}

// newStore is an empty store. All roots but that of the store have a number, which must stay.
func newStore(t *testing.T, homes int) *store {
	t.Helper()
	w := bare(t, homes)
	if e := keep.Format(w.x); e != api.OK {
		t.Fatalf("P12.1: Format: error %d", e)
	}
	for k := 1; k < 16; k++ {
		if e := space.SetRoot(w.x, k, otherRoot(k)); e != api.OK {
			t.Fatalf("space.SetRoot: error %d", e)
		}
	}
	w.commit()
	return w
}

func otherRoot(k int) uint32 { return uint32(k * 0x1234567) }

func (w *store) open() {
	w.t.Helper()
	j, e := journal.Open(w.d)
	if e != api.OK {
		w.t.Fatalf("journal.Open: error %d", e)
	}
	w.j = j
	w.begin()
}

func (w *store) begin() {
	w.t.Helper()
	x, e := txn.Begin(w.j)
	if e != api.OK {
		w.t.Fatalf("txn.Begin: error %d", e)
	}
	w.x = x
}

func (w *store) commit() {
	w.t.Helper()
	if e := w.x.Commit(); e != api.OK {
		w.t.Fatalf("txn.Commit: error %d", e)
	}
	w.last = w.had.clone()
	w.begin()
}

// rest commits if the transaction could have too few sectors left for another call.
func (w *store) rest() {
	w.t.Helper()
	if w.x.Touched() > 15 {
		w.commit()
	}
}

// abort finishes the transaction, and goes back to what was committed.
func (w *store) abort() {
	w.t.Helper()
	w.x.Abort()
	w.had = w.last.clone()
	w.begin()
}

// power lets the power fail, and goes back to what was committed.
func (w *store) power(stay []bool) {
	w.t.Helper()
	w.d.Power(stay)
	w.had = w.last.clone()
	w.open()
}

// copy is another store on a copy of the disk, as it was committed.
func (w *store) copy(t *testing.T) *store {
	t.Helper()
	c := &store{t: t, homes: w.homes, d: w.d.Copy(), had: w.last.clone(), last: w.last.clone(), others: maps.Clone(w.others)}
	c.open()
	return c
}

func (w *store) set(key api.ID, data []byte) {
	w.t.Helper()
	if e := keep.Set(w.x, key, data); e != api.OK {
		w.t.Fatalf("P12.1: Set of %d bytes: error %d", len(data), e)
	}
	w.had.set(key, data)
}

func (w *store) drop(key api.ID) {
	w.t.Helper()
	if e := keep.Drop(w.x, key); e != api.OK {
		w.t.Fatalf("P12.1: Drop: error %d", e)
	}
	w.had.drop(key)
}

// compact makes a Compact, which must do what the chapter says, and reports whether it moved a record.
func (w *store) compact() bool {
	w.t.Helper()
	want := w.had.compact()
	if ok, e := keep.Compact(w.x); ok != want || e != api.OK {
		w.t.Fatalf("P12.2: Compact: %v, error %d, not %v", ok, e, want)
	}
	return want
}

// grow sets records whose frames have so many bytes, with the keys of 0, 1, 2 and so on, and commits.
func (w *store) grow(sizes ...int) {
	w.t.Helper()
	for k, n := range sizes {
		w.set(keyOf(k), dataOf(k, n-head))
		w.rest()
	}
	w.commit()
}

// losses drops the records of numbers, and commits.
func (w *store) losses(l ...int) {
	w.t.Helper()
	for _, k := range l {
		w.drop(keyOf(k))
		w.rest()
	}
	w.commit()
}

// take allocates n sectors for something else, one by one, and commits. What is in them must stay.
func (w *store) take(n int) {
	w.t.Helper()
	for range n {
		i, e := space.Take(w.x, 1)
		if e != api.OK {
			w.t.Fatalf("space.Take: error %d", e)
		}
		b := sectorOf(i)
		w.write(i, b)
		w.others[i] = b
		w.rest()
	}
	w.commit()
}

// give releases a sector of something else.
func (w *store) give(i int) {
	w.t.Helper()
	if e := space.Free(w.x, i, 1); e != api.OK {
		w.t.Fatalf("space.Free: error %d", e)
	}
	delete(w.others, i)
}

func (w *store) write(i int, b []byte) {
	w.t.Helper()
	if e := w.x.Write(i, b); e != api.OK {
		w.t.Fatalf("txn.Write(%d): error %d", i, e)
	}
}

func (w *store) read(i int) []byte {
	w.t.Helper()
	b, e := w.x.Read(i)
	if e != api.OK {
		w.t.Fatalf("txn.Read(%d): error %d", i, e)
	}
	return b
}

func (w *store) left() int {
	w.t.Helper()
	n, e := space.Left(w.x)
	if e != api.OK {
		w.t.Fatalf("space.Left: error %d", e)
	}
	return n
}

func (w *store) root() uint32 {
	w.t.Helper()
	v, e := space.Root(w.x, 0)
	if e != api.OK {
		w.t.Fatalf("space.Root: error %d", e)
	}
	return v
}

// point makes the tree have v of a key, whatever the record is.
func (w *store) point(key api.ID, v api.Val) {
	w.t.Helper()
	root, e := tree.Put(w.x, w.root(), key, v)
	if e != api.OK {
		w.t.Fatalf("tree.Put: error %d", e)
	}
	if e := space.SetRoot(w.x, 0, root); e != api.OK {
		w.t.Fatalf("space.SetRoot: error %d", e)
	}
}

// starts are the first sectors of the packs, by their numbers.
func (w *store) starts() map[int]int {
	w.t.Helper()
	m := map[int]int{}
	b := append(w.read(2), w.read(3)...)
	for n := range packs {
		if start := binary.BigEndian.Uint32(b[16*n:]); start > 0 {
			m[n] = int(start)
		}
	}
	return m
}

// setEntry writes the pack table's numbers of pack n.
func (w *store) setEntry(n int, l ...int) {
	w.t.Helper()
	b := w.read(2 + n/32)
	for k, v := range l {
		binary.BigEndian.PutUint32(b[n%32*16+4*k:], uint32(v))
	}
	w.write(2+n/32, b)
}

// turn changes a byte of pack n.
func (w *store) turn(n, at int, by byte) {
	w.t.Helper()
	i := w.starts()[n] + at/512
	b := w.read(i)
	b[at%512] ^= by
	w.write(i, b)
}

// nodes are the sectors of the tree from one of its nodes on.
func (w *store) nodes(at uint32) []int {
	w.t.Helper()
	if at == 0 {
		return nil
	}
	l := []int{int(at)}
	b := w.read(int(at))
	if b[0] == 2 {
		for k := range int(b[1]) + 1 {
			l = append(l, w.nodes(binary.BigEndian.Uint32(b[8+36*k:]))...)
		}
	}
	return l
}

// owners are how many things have each sector.
func (w *store) owners() []int {
	w.t.Helper()
	l := make([]int, w.homes)
	for i := range 4 {
		l[i]++
	}
	for i := range w.others {
		l[i]++
	}
	for _, start := range w.starts() {
		for i := range long {
			l[start+i]++
		}
	}
	for _, i := range w.nodes(w.root()) {
		l[i]++
	}
	return l
}

// check holds the tree, the packs and the sectors against what must be there.
func (w *store) check(where string) {
	w.t.Helper()
	l, e := tree.Scan(w.x, w.root(), api.ID{}, 100000)
	if want := w.had.pairs(); e != api.OK || !slices.Equal(l, want) {
		w.t.Fatalf("%s: the tree of root 0 has %d pairs, error %d, not the %d that must be: %v", where, len(l), e, len(want), l)
	}
	for k := 1; k < 16; k++ {
		if v, e := space.Root(w.x, k); v != otherRoot(k) || e != api.OK {
			w.t.Fatalf("%s: root %d is %d, error %d", where, k, v, e)
		}
	}
	for n := -1; n <= packs; n++ {
		w.checkPack(where, n)
	}
	for i, want := range w.owners() {
		if on, e := space.Taken(w.x, i); want > 1 || on != (want == 1) || e != api.OK {
			w.t.Fatalf("%s: sector %d: of %d things, and allocated: %v, error %d", where, i, want, on, e)
		}
	}
	for i, want := range w.others {
		if !bytes.Equal(w.read(i), want) {
			w.t.Fatalf("%s: sector %d, which is something else's, was changed", where, i)
		}
	}
}

func (w *store) checkPack(where string, n int) {
	w.t.Helper()
	b, ok := w.had.boxes[n]
	want := api.OK
	if !ok {
		want = api.ErrArg
	}
	if used, live, e := pack.Stat(w.x, n); used != b.used || live != b.live || e != want {
		w.t.Fatalf("%s: pack %d: %d bytes in use, %d live, error %d; not %d, %d, error %d", where, n, used, live, e, b.used, b.live, want)
	}
	if l, e := pack.List(w.x, n); !slices.Equal(l, b.frames) || e != want {
		w.t.Fatalf("%s: pack %d has the frames %v, error %d, not %v", where, n, l, e, b.frames)
	}
}

// wantRecords holds what the store tells against the records that must be there.
func (w *store) wantRecords(where string) {
	w.t.Helper()
	for key, want := range w.had.data {
		if b, e := keep.Get(w.x, key); e != api.OK || !bytes.Equal(b, want) {
			w.t.Fatalf("%s: P12.1: Get: %d bytes, error %d, not the %d that were set", where, len(b), e, len(want))
		}
	}
	if n, e := keep.Len(w.x); n != len(w.had.data) || e != api.OK {
		w.t.Fatalf("%s: P12.1: Len: %d, error %d, not %d", where, n, e, len(w.had.data))
	}
	l, e := keep.Scan(w.x, api.ID{}, len(w.had.data)+1)
	if want := w.had.records(api.ID{}, len(w.had.data)); !sameRecords(l, want) || e != api.OK {
		w.t.Fatalf("%s: P12.1: Scan: %d records, error %d, not the %d that there are", where, len(l), e, len(want))
	}
}

func (w *store) checkAll(where string) {
	w.t.Helper()
	w.check(where)
	w.wantRecords(where)
}

var fullStore struct {
	sync.Mutex
	made *store
}

// full is a store of 64 packs each of which is full with two records, and of 50 sectors beside them and the tree.
func full(t *testing.T) *store {
	t.Helper()
	fullStore.Lock()
	defer fullStore.Unlock()
	if fullStore.made == nil {
		w := newStore(t, 4+packs*long+50)
		w.grow(slices.Repeat([]int{room / 2}, 2*packs)...)
		fullStore.made = w
	}
	return fullStore.made.copy(t)
}

// where names a step.
func where(name string, l ...any) string { return fmt.Sprintf(name, l...) }
