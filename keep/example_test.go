package keep_test

import (
	"testing"

	"coffer/api"
	"coffer/keep"
)

// The chapter's examples, one by one.
func TestExamples(t *testing.T) {
	w := bare(t, 100)
	k := keyOf(5)
	if e := keep.Format(w.x); e != api.OK {
		t.Errorf("Examples: Format: error %d", e)
	}
	if e := keep.Set(w.x, k, []byte{1}); e != api.OK {
		t.Errorf("Examples: the first Set: error %d", e)
	}
	if e := keep.Set(w.x, k, []byte{2}); e != api.OK {
		t.Errorf("Examples: the second Set: error %d", e)
	}
	if b, e := keep.Get(w.x, k); len(b) != 1 || b[0] != 2 || e != api.OK {
		t.Errorf("Examples: Get: %v, error %d", b, e)
	}
	if n, e := keep.Len(w.x); n != 1 || e != api.OK {
		t.Errorf("Examples: Len: %d, error %d", n, e)
	}
	if e := keep.Drop(w.x, k); e != api.OK {
		t.Errorf("Examples: Drop: error %d", e)
	}
	if b, e := keep.Get(w.x, k); len(b) > 0 || e != api.ErrNone {
		t.Errorf("Examples: Get behind Drop: %v, error %d", b, e)
	}
}
