package keep_test

import (
	"math"
	"slices"
	"testing"

	"coffer/api"
	"coffer/journal"
	"coffer/keep"
	"coffer/txn"
)

// wantFinished makes calls of all functions, with keys that there were and others: ErrNone, also of more data than may be.
func wantFinished(t *testing.T, name string, x *txn.Tx) {
	t.Helper()
	for _, key := range []api.ID{{}, keyOf(0), keyOf(1), keyOf(1000)} {
		for _, c := range append(all(key), set(key, make([]byte, longest+1)), set(key, make([]byte, 9000))) {
			wantError(t, name, x, c, api.ErrNone)
		}
	}
	wantNothing(t, name, x)
}

// wantNothing makes calls that ask for no records: whether they find out that there is no transaction is left open.
func wantNothing(t *testing.T, name string, x *txn.Tx) {
	t.Helper()
	for _, most := range []int{math.MinInt, -1, 0} {
		got := scan(keyOf(0), most).do(x)
		if !slices.Contains([]api.Errno{api.OK, api.ErrNone, api.ErrDead}, got.e) || !got.zero {
			t.Errorf("%s: Scan of %d records: error %d, %s", name, most, got.e, got.words)
		}
	}
}

func TestNoTransaction(t *testing.T) {
	var none *txn.Tx
	wantFinished(t, "a nil transaction", none)
	wantFinished(t, "a zero transaction", &txn.Tx{})
}

func bump(j *journal.Journal) {
	j.Commit([]api.Put{{Sector: 90, Data: sectorOf(20)}})
}

// ends are the ways in which a transaction is finished, and what the last call of each answers.
func ends() map[string]func(w *store) (got, want api.Errno) {
	return map[string]func(w *store) (got, want api.Errno){
		"Commit":                 func(w *store) (got, want api.Errno) { return w.x.Commit(), api.OK },
		"a Commit too late":      func(w *store) (got, want api.Errno) { bump(w.j); return w.x.Commit(), api.ErrOrder },
		"a Commit without power": func(w *store) (got, want api.Errno) { w.d.Power(nil); return w.x.Commit(), api.ErrDead },
		"Abort":                  func(w *store) (got, want api.Errno) { w.x.Abort(); return api.OK, api.OK },
	}
}

// A transaction that wrote nothing, and one that changed the store, finished in each way, whatever becomes of the journal.
func TestFinished(t *testing.T) {
	t.Parallel()
	for name, end := range ends() {
		for k := range 4 {
			w := newStore(t, 100)
			w.grow(3000, 200, 4246, 4246)
			w.losses(2)
			switch k {
			case 1:
				w.set(keyOf(1), dataOf(1, 100))
			case 2:
				w.drop(keyOf(0))
				w.compact()
			case 3:
				format().do(w.x)
			}
			if got, want := end(w); got != want {
				t.Fatalf("%s: error %d, not %d", name, got, want)
			}
			turn, writes := w.j.Turn(), w.d.Writes()
			wantFinished(t, name, w.x)
			if w.j.Turn() != turn || w.d.Writes() != writes || w.x.Touched() != 0 {
				t.Errorf("%s: a finished transaction writes", name)
			}
			bump(w.j)
			wantFinished(t, name+", and the journal goes on", w.x)
			w.d.Power(nil)
			wantFinished(t, name+", and the journal is closed", w.x)
		}
	}
}

// A journal that is closed between Begin and the call: ErrDead of what needs it, and no trace in the transaction.
func TestClosed(t *testing.T) {
	t.Parallel()
	for name, shut := range map[string]func(w *store){
		"Power":             func(w *store) { w.d.Power(nil) },
		"a failed Commit":   func(w *store) { w.d.Arm(0, 0); bump(w.j) },
		"a disk that fails": func(w *store) { w.d.Arm(0, 0); w.d.Flush() },
	} {
		w := newStore(t, 100)
		w.grow(3000, 200, 4246, 4246)
		w.losses(2)
		if e := w.j.Checkpoint(); e != api.OK {
			t.Fatalf("journal.Checkpoint: error %d", e)
		}
		shut(w)
		for _, key := range []api.ID{{}, keyOf(0), keyOf(1), keyOf(1000)} {
			for _, c := range all(key)[1:] {
				wantError(t, name, w.x, c, api.ErrDead)
			}
			if e := keep.Set(w.x, key, make([]byte, longest+1)); e != api.ErrDead && e != api.ErrLong {
				t.Errorf("%s: P12.1: Set of too much: error %d", name, e)
			}
		}
		wantNothing(t, name, w.x)
		if w.x.Touched() != 0 {
			t.Errorf("%s: P0.2: %d sectors are written", name, w.x.Touched())
		}
	}
}
