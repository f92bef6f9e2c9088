package pack_test

import (
	"bytes"
	"fmt"
	"slices"
	"sync"
	"testing"

	"coffer/api"
	"coffer/disk"
	"coffer/journal"
	"coffer/pack"
	"coffer/space"
	"coffer/txn"
)

// shed is a journal with a space and packs in it, a transaction, and what must be in the packs: as the transaction sees
// it, and as it was committed.
type shed struct {
	t    *testing.T
	d    *disk.Disk
	j    *journal.Journal
	x    *txn.Tx
	had  shelf
	last shelf
	ever map[int]bool // the sectors that were once a pack's: what is in them behind its frames is left open
}

// newShed is a shed of so many home sectors.
func newShed(t *testing.T, homes int) *shed {
	t.Helper()
	w := &shed{t: t, d: disk.New(homes + 130), had: newShelf(homes), ever: map[int]bool{}}
	if e := journal.Format(w.d, 128); e != api.OK {
		t.Fatalf("journal.Format: error %d", e)
	}
	w.open()
	if e := space.Format(w.x); e != api.OK {
		t.Fatalf("space.Format: error %d", e)
	}
	w.commit()
	return w
}

func (w *shed) open() {
	w.t.Helper()
	j, e := journal.Open(w.d)
	if e != api.OK {
		w.t.Fatalf("journal.Open: error %d", e)
	}
	w.j = j
	w.begin()
}

func (w *shed) begin() {
	w.t.Helper()
	x, e := txn.Begin(w.j)
	if e != api.OK {
		w.t.Fatalf("txn.Begin: error %d", e)
	}
	w.x = x
}

func (w *shed) commit() {
	w.t.Helper()
	if e := w.x.Commit(); e != api.OK {
		w.t.Fatalf("txn.Commit: error %d", e)
	}
	w.last = w.had.clone()
	w.begin()
}

// abort finishes the transaction, and goes back to what was committed.
func (w *shed) abort() {
	w.t.Helper()
	w.x.Abort()
	w.had = w.last.clone()
	w.begin()
}

// power lets the power fail, and goes back to what was committed.
func (w *shed) power(keep []bool) {
	w.t.Helper()
	w.d.Power(keep)
	w.had = w.last.clone()
	w.open()
}

// copy is another shed on a copy of the disk, as it was committed.
func (w *shed) copy(t *testing.T) *shed {
	t.Helper()
	c := &shed{t: t, d: w.d.Copy(), had: w.last.clone(), last: w.last, ever: map[int]bool{}}
	for i := range w.ever {
		c.ever[i] = true
	}
	c.open()
	return c
}

// note holds a place that was answered against where the frame must be, and keeps in mind what is there.
func (w *shed) note(name string, p api.Place, e api.Errno, but int, makes bool, key api.ID, data []byte) api.Place {
	w.t.Helper()
	n, start := w.had.choice(head+len(data), but, makes)
	if n < 0 {
		w.t.Fatalf("P11.1: %s of %d bytes: %v, error %d, without room", name, len(data), p, e)
	}
	if want := w.had.put(n, start, key, data); p != want || e != api.OK {
		w.t.Fatalf("P11.1: %s of %d bytes: %v, error %d, not %v", name, len(data), p, e, want)
	}
	for i := range long {
		w.ever[start+i] = true
	}
	return p
}

func (w *shed) add(key api.ID, data []byte) api.Place {
	w.t.Helper()
	p, e := pack.Add(w.x, key, data)
	return w.note("Add", p, e, -1, true, key, data)
}

func (w *shed) addBut(key api.ID, data []byte, but int) api.Place {
	w.t.Helper()
	p, e := pack.AddBut(w.x, key, data, but)
	return w.note(fmt.Sprintf("AddBut %d", but), p, e, but, false, key, data)
}

func (w *shed) drop(p api.Place) {
	w.t.Helper()
	if e := pack.Drop(w.x, p); e != api.OK {
		w.t.Fatalf("P11.2: Drop(%v): error %d", p, e)
	}
	w.had.drop(p)
}

// grow adds a frame of so many bytes for each number, and commits now and then.
func (w *shed) grow(sizes ...int) []api.Place {
	w.t.Helper()
	var l []api.Place
	for k, n := range sizes {
		l = append(l, w.add(keyOf(k), dataOf(k, n-head)))
		if w.x.Touched() > 20 {
			w.commit()
		}
	}
	w.commit()
	return l
}

// take allocates sectors that are not the packs'. What is in them must stay.
func (w *shed) take(l ...int) {
	w.t.Helper()
	for _, i := range l {
		w.had.others[i] = w.read(i)
	}
	w.write(1, w.had.bitmap())
}

// free releases sectors that are not the packs'.
func (w *shed) free(l ...int) {
	w.t.Helper()
	for _, i := range l {
		delete(w.had.others, i)
		w.ever[i] = true
	}
	w.write(1, w.had.bitmap())
}

func (w *shed) write(i int, b []byte) {
	w.t.Helper()
	if e := w.x.Write(i, b); e != api.OK {
		w.t.Fatalf("txn.Write(%d): error %d", i, e)
	}
}

func (w *shed) read(i int) []byte {
	w.t.Helper()
	b, e := w.x.Read(i)
	if e != api.OK {
		w.t.Fatalf("txn.Read(%d): error %d", i, e)
	}
	return b
}

func (w *shed) left() int {
	w.t.Helper()
	n, e := space.Left(w.x)
	if e != api.OK {
		w.t.Fatalf("space.Left: error %d", e)
	}
	return n
}

// fill writes n sectors that are no pack's.
func (w *shed) fill(n int) {
	w.t.Helper()
	for i := range n {
		w.write(w.had.homes-1-i, sectorOf(i))
	}
}

// bytesOf are n bytes from the beginning of sector start on.
func (w *shed) bytesOf(start, n int) []byte {
	w.t.Helper()
	var b []byte
	for i := start; len(b) < n; i++ {
		b = append(b, w.read(i)...)
	}
	return b[:n]
}

// turn changes a byte of the pack that starts at start.
func (w *shed) turn(start, at int, by byte) {
	w.t.Helper()
	b := w.read(start + at/512)
	b[at%512] ^= by
	w.write(start+at/512, b)
}

func (w *shed) wantBytes(where string, got, want []byte) {
	w.t.Helper()
	if !bytes.Equal(got, want) {
		at := 0
		for got[at] == want[at] {
			at++
		}
		w.t.Fatalf("%s: byte %d is %d, not %d", where, at, got[at], want[at])
	}
}

// check holds every sector against what must be there.
func (w *shed) check(where string) {
	w.t.Helper()
	w.wantBytes(where+": the bitmap", w.read(1), w.had.bitmap())
	w.wantBytes(where+": the pack table", w.bytesOf(2, 1024), w.had.table())
	for n, b := range w.had.boxes {
		w.wantBytes(fmt.Sprintf("%s: pack %d", where, n), w.bytesOf(b.start, len(b.bytes)), b.bytes)
	}
	for i := range w.had.homes {
		want, ok := w.had.others[i]
		if !ok && (w.ever[i] || i >= 1 && i <= 3) {
			continue
		}
		if !ok {
			want = make([]byte, 512)
		}
		if got := w.read(i); !bytes.Equal(got, want) {
			w.t.Fatalf("%s: sector %d, no pack's, is % x.., not % x..", where, i, got[:72], want[:72])
		}
	}
}

// wantAnswers holds Get of each place, and List and Stat of each pack, against what must be there.
func (w *shed) wantAnswers(where string) {
	w.t.Helper()
	for p, r := range w.had.records {
		if b, e := pack.Get(w.x, p, r.key); e != api.OK || !bytes.Equal(b, r.data) {
			w.t.Fatalf("%s: P11.2: Get(%v): %d bytes, error %d, not the %d that were added", where, p, len(b), e, len(r.data))
		}
	}
	for n := -1; n <= packs; n++ {
		m, ok := w.had.boxes[n]
		want := api.OK
		if !ok {
			want = api.ErrArg
		}
		if l, e := pack.List(w.x, n); e != want || !slices.Equal(l, m.frames) {
			w.t.Fatalf("%s: P11.3: List(%d): %v, error %d, not %v, error %d", where, n, l, e, m.frames, want)
		}
		if used, live, e := pack.Stat(w.x, n); e != want || used != len(m.bytes) || live != m.live {
			w.t.Fatalf("%s: P11.3: Stat(%d): %d, %d, error %d, not %d, %d, error %d", where, n, used, live, e, len(m.bytes), m.live, want)
		}
	}
}

var fullShed struct {
	sync.Mutex
	made *shed
}

// full is a shed of 64 packs each of which is full with two frames, and of 60 free sectors.
func full(t *testing.T) *shed {
	t.Helper()
	fullShed.Lock()
	defer fullShed.Unlock()
	if fullShed.made == nil {
		w := newShed(t, 4+packs*long+60)
		w.grow(slices.Repeat([]int{room / 2}, 2*packs)...)
		fullShed.made = w
	}
	return fullShed.made.copy(t)
}
