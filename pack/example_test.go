package pack_test

import (
	"testing"

	"coffer/api"
	"coffer/pack"
)

// The chapter's examples, one by one.
func TestExamples(t *testing.T) {
	w := newShed(t, 100)
	p, e := pack.Add(w.x, api.ID{}, []byte{1})
	if p != (api.Place{Pack: 0, At: 0, Len: 47}) || e != api.OK {
		t.Errorf("Examples: the first Add: %v, error %d", p, e)
	}
	q, e := pack.Add(w.x, api.ID{}, []byte{1})
	if q != (api.Place{Pack: 0, At: 47, Len: 47}) || e != api.OK {
		t.Errorf("Examples: the second Add: %v, error %d", q, e)
	}
	if e := pack.Drop(w.x, p); e != api.OK {
		t.Errorf("Examples: the first Drop: error %d", e)
	}
	if used, live, e := pack.Stat(w.x, 0); used != 94 || live != 47 || e != api.OK {
		t.Errorf("Examples: Stat: %d, %d, error %d", used, live, e)
	}
	if e := pack.Drop(w.x, q); e != api.OK {
		t.Errorf("Examples: the second Drop: error %d", e)
	}
	if _, _, e := pack.Stat(w.x, 0); e != api.ErrArg {
		t.Errorf("Examples: Stat of a pack that does not exist any more: error %d", e)
	}
}

// Places are the keys of a map: each one of a record, and no two of them alike, though pack, offset and length repeat.
func TestPlacesAsKeys(t *testing.T) {
	w := newShed(t, 100)
	had := map[api.Place]int{}
	for k := range 30 {
		p, e := pack.Add(w.x, keyOf(k), dataOf(k, 850*(k%2)+k/2))
		if e != api.OK {
			t.Fatalf("P11.1: Add: error %d", e)
		}
		if other, ok := had[p]; ok {
			t.Fatalf("P11.1: the records %d and %d are both at %v", other, k, p)
		}
		had[p] = k
	}
	for p, k := range had {
		b, e := pack.Get(w.x, p, keyOf(k))
		if e != api.OK || string(b) != string(dataOf(k, 850*(k%2)+k/2)) {
			t.Errorf("P11.2: Get(%v): %d bytes, error %d", p, len(b), e)
		}
	}
}
