package rights_test

import (
	"testing"

	"coffer/api"
	"coffer/rights"
)

// allSets are the valid sets and those with other bits.
const allSets = 256

// has tells by division whether bit number i is in r, so that no operator of the sets themselves is trusted.
func has(r api.Rights, i int) bool {
	n := int(r)
	for range i {
		n /= 2
	}
	return n%2 == 1
}

// setOf makes a set by a sum over the bits that in says.
func setOf(in func(i int) bool) api.Rights {
	n, weight := 0, 1
	for i := range 8 {
		if in(i) {
			n += weight
		}
		weight *= 2
	}
	return api.Rights(n)
}

func wantMay(t *testing.T, r api.Rights, want bool) {
	t.Helper()
	if rights.May(r) != want {
		t.Errorf("P13.1: May(%d): not %t", r, want)
	}
}

func TestTheRightsAreBits(t *testing.T) {
	for i, r := range []api.Rights{api.Read, api.Add, api.Drop, api.Admin} {
		if r != setOf(func(k int) bool { return k == i }) {
			t.Errorf("P13.1: right %d is %d", i, r)
		}
		wantMay(t, r, true)
	}
}

func TestMayOfValidSets(t *testing.T) {
	for _, r := range []api.Rights{0, 1, 2, 3, 4, 5, 6, 7, 8, 9, 10, 11, 12, 13, 14, 15} {
		wantMay(t, r, true)
	}
	wantMay(t, api.Reader, true)
	wantMay(t, api.Adder, true)
	wantMay(t, api.Full, true)
	wantMay(t, api.Ruler, true)
}

func TestMayOfOtherBits(t *testing.T) {
	for _, r := range []api.Rights{16, 32, 64, 128, 17, 18, 20, 24, 31, 33, 47, 65, 129, 143, 240, 254, 255} {
		wantMay(t, r, false)
	}
	for r := 16; r < allSets; r++ {
		wantMay(t, api.Rights(r), false)
	}
}

func wantPair(t *testing.T, a, b api.Rights) {
	t.Helper()
	covers := true
	for i := range 8 {
		if has(b, i) && !has(a, i) {
			covers = false
		}
	}
	meet := setOf(func(i int) bool { return has(a, i) && has(b, i) })
	join := setOf(func(i int) bool { return has(a, i) || has(b, i) })
	if got := rights.Covers(a, b); got != covers {
		t.Errorf("P13.1: Covers(%d, %d): not %t", a, b, covers)
	}
	if got := rights.Meet(a, b); got != meet {
		t.Errorf("P13.1: Meet(%d, %d): %d, not %d", a, b, got, meet)
	}
	if got := rights.Join(a, b); got != join {
		t.Errorf("P13.1: Join(%d, %d): %d, not %d", a, b, got, join)
	}
}

func TestPairsOfValidSets(t *testing.T) {
	for a := range api.Rights(16) {
		for b := range api.Rights(16) {
			wantPair(t, a, b)
		}
	}
}

func TestPairsWithOtherBits(t *testing.T) {
	for a := range allSets {
		for b := range allSets {
			wantPair(t, api.Rights(a), api.Rights(b))
		}
	}
}

func TestPairsByHand(t *testing.T) {
	rows := []struct {
		a, b   api.Rights
		covers bool
		meet   api.Rights
		join   api.Rights
	}{
		{0, 0, true, 0, 0},
		{0, 1, false, 0, 1},
		{1, 0, true, 0, 1},
		{api.Reader, api.Adder, false, api.Read, api.Adder},
		{api.Adder, api.Reader, true, api.Read, api.Adder},
		{api.Full, api.Adder, true, api.Adder, api.Full},
		{api.Full, api.Admin, false, 0, api.Ruler},
		{api.Ruler, api.Full, true, api.Full, api.Ruler},
		{5, 6, false, 4, 7},
		{8, 7, false, 0, 15},
		{16, 0, true, 0, 16},
		{16, 1, false, 0, 17},
		{15, 16, false, 0, 31},
		{17, 1, true, 1, 17},
		{1, 17, false, 1, 17},
		{255, 15, true, 15, 255},
		{15, 255, false, 15, 255},
		{255, 255, true, 255, 255},
		{170, 85, false, 0, 255},
	}
	for _, x := range rows {
		if rights.Covers(x.a, x.b) != x.covers || rights.Meet(x.a, x.b) != x.meet || rights.Join(x.a, x.b) != x.join {
			t.Errorf("P13.1: of %d and %d: %t %d %d", x.a, x.b, rights.Covers(x.a, x.b), rights.Meet(x.a, x.b), rights.Join(x.a, x.b))
		}
	}
}
