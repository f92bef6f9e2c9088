package pack_test

import (
	"math"
	"slices"
	"testing"

	"coffer/api"
	"coffer/journal"
	"coffer/txn"
)

// wantFinished makes calls of all functions, with places and numbers of packs that there were: ErrNone.
func wantFinished(t *testing.T, where string, x *txn.Tx) {
	t.Helper()
	for _, p := range []api.Place{{Pack: 0, At: 0, Len: 100}, {Pack: 0, At: 100, Len: 200}, {Pack: 1, At: 0, Len: 4246}, {Pack: 31, At: 0, Len: 46}, {Pack: 32, At: 0, Len: 46}, {Pack: 63, At: 0, Len: 46}} {
		for _, key := range []api.ID{{}, keyOf(0), keyOf(1)} {
			for _, c := range all(p, key) {
				wantError(t, where, x, c, api.ErrNone)
			}
		}
	}
	wantStrange(t, where, x)
}

// wantStrange makes calls with wrong arguments, which may be told ahead of what is wrong with the transaction.
func wantStrange(t *testing.T, where string, x *txn.Tx) {
	t.Helper()
	calls := []call{add(keyOf(1), make([]byte, longest+1)), addBut(keyOf(1), make([]byte, longest+1), 0)}
	for _, n := range noPacks() {
		calls = append(calls, list(n), stat(n), get(api.Place{Pack: n, At: 0, Len: 100}, keyOf(0)), drop(api.Place{Pack: n, At: 0, Len: 100}))
	}
	for _, v := range []int{math.MinInt, -1, 45, math.MaxInt} {
		calls = append(calls, get(api.Place{At: v, Len: v}, keyOf(0)), drop(api.Place{At: v, Len: v}))
	}
	for _, c := range calls {
		got := c.do(x)
		if !slices.Contains([]api.Errno{api.ErrNone, api.ErrArg, api.ErrLong, api.ErrDead}, got.e) || !got.zero {
			t.Errorf("%s: %s: error %d, %s", where, c.name, got.e, got.words)
		}
	}
}

func TestNoTransaction(t *testing.T) {
	var none *txn.Tx
	wantFinished(t, "a nil transaction", none)
	wantFinished(t, "a zero transaction", &txn.Tx{})
}

func bump(j *journal.Journal) {
	j.Commit([]api.Put{{Sector: 90, Data: sectorOf(20)}})
}

// ends are the ways in which a transaction is finished, and what the last call of each answers.
func ends() map[string]func(w *shed) (got, want api.Errno) {
	return map[string]func(w *shed) (got, want api.Errno){
		"Commit":                 func(w *shed) (got, want api.Errno) { return w.x.Commit(), api.OK },
		"a Commit too late":      func(w *shed) (got, want api.Errno) { bump(w.j); return w.x.Commit(), api.ErrOrder },
		"a Commit without power": func(w *shed) (got, want api.Errno) { w.d.Power(nil); return w.x.Commit(), api.ErrDead },
		"Abort":                  func(w *shed) (got, want api.Errno) { w.x.Abort(); return api.OK, api.OK },
	}
}

// A transaction that wrote nothing, and one that changed packs, finished in each way, whatever becomes of the journal.
func TestFinished(t *testing.T) {
	t.Parallel()
	for name, end := range ends() {
		for k := range 3 {
			w := newShed(t, 100)
			w.grow(100, 200, 4246, 4246)
			if k > 0 {
				w.add(keyOf(1), dataOf(1, 100))
			}
			if k > 1 {
				w.drop(api.Place{Pack: 0, At: 0, Len: 100})
			}
			if got, want := end(w); got != want {
				t.Fatalf("%s: error %d, not %d", name, got, want)
			}
			turn, writes := w.j.Turn(), w.d.Writes()
			wantFinished(t, name, w.x)
			if w.j.Turn() != turn || w.d.Writes() != writes || w.x.Touched() != 0 {
				t.Errorf("%s: a finished transaction writes", name)
			}
			bump(w.j)
			wantFinished(t, name+", and the journal goes on", w.x)
			w.d.Power(nil)
			wantFinished(t, name+", and the journal is closed", w.x)
		}
	}
}

// A journal that is closed between Begin and the call: ErrDead of what needs it, and no trace in the transaction.
func TestClosed(t *testing.T) {
	t.Parallel()
	for name, shut := range map[string]func(w *shed){
		"Power":             func(w *shed) { w.d.Power(nil) },
		"a failed Commit":   func(w *shed) { w.d.Arm(0, 0); bump(w.j) },
		"a disk that fails": func(w *shed) { w.d.Arm(0, 0); w.d.Flush() },
	} {
		w := newShed(t, 100)
		l := w.grow(100, 200, 4246, 4246)
		if e := w.j.Checkpoint(); e != api.OK {
			t.Fatalf("journal.Checkpoint: error %d", e)
		}
		shut(w)
		for k, p := range l {
			for _, c := range all(p, keyOf(k)) {
				wantError(t, name, w.x, c, api.ErrDead)
			}
		}
		wantStrange(t, name, w.x)
		if w.x.Touched() != 0 {
			t.Errorf("%s: P0.2: %d sectors are written", name, w.x.Touched())
		}
	}
}
