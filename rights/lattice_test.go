package rights_test

import (
	"testing"

	"coffer/api"
	"coffer/rights"
)

func TestMeetAndJoinAreIdempotent(t *testing.T) {
	for n := range allSets {
		a := api.Rights(n)
		if rights.Meet(a, a) != a || rights.Join(a, a) != a {
			t.Errorf("P13.1: of %d with itself: %d %d", a, rights.Meet(a, a), rights.Join(a, a))
		}
		if !rights.Covers(a, a) {
			t.Errorf("P13.1: %d does not cover itself", a)
		}
	}
}

func eachPair(f func(a, b api.Rights)) {
	for n := range allSets {
		for m := range allSets {
			f(api.Rights(n), api.Rights(m))
		}
	}
}

func TestMeetAndJoinAreCommutative(t *testing.T) {
	eachPair(func(a, b api.Rights) {
		if rights.Meet(a, b) != rights.Meet(b, a) {
			t.Errorf("P13.1: Meet of %d and %d hangs on their order", a, b)
		}
		if rights.Join(a, b) != rights.Join(b, a) {
			t.Errorf("P13.1: Join of %d and %d hangs on their order", a, b)
		}
	})
}

func TestMeetAndJoinAbsorbEachOther(t *testing.T) {
	eachPair(func(a, b api.Rights) {
		if rights.Meet(a, rights.Join(a, b)) != a || rights.Join(a, rights.Meet(a, b)) != a {
			t.Errorf("P13.1: %d and %d do not absorb", a, b)
		}
	})
}

func TestCoversIsTheOrderOfTheLattice(t *testing.T) {
	eachPair(func(a, b api.Rights) {
		covers := rights.Covers(a, b)
		if covers != (rights.Join(a, b) == a) || covers != (rights.Meet(a, b) == b) {
			t.Errorf("P13.1: Covers(%d, %d) is %t", a, b, covers)
		}
		if covers && rights.Covers(b, a) && a != b {
			t.Errorf("P13.1: %d and %d cover each other", a, b)
		}
		if join := rights.Join(a, b); !rights.Covers(join, a) || !rights.Covers(join, b) {
			t.Errorf("P13.1: Join(%d, %d) does not cover both", a, b)
		}
		if meet := rights.Meet(a, b); !rights.Covers(a, meet) || !rights.Covers(b, meet) {
			t.Errorf("P13.1: Meet(%d, %d) is not covered by both", a, b)
		}
	})
}

func TestValidSetsAreALatticeOfTheirOwn(t *testing.T) {
	eachPair(func(a, b api.Rights) {
		if both := rights.May(a) && rights.May(b); both != rights.May(rights.Join(a, b)) {
			t.Errorf("P13.1: May(Join(%d, %d)) is %t", a, b, !both)
		}
		if rights.May(a) && !rights.May(rights.Meet(a, b)) {
			t.Errorf("P13.1: Meet(%d, %d) is not valid", a, b)
		}
	})
}

// rulesHold takes no *testing.T: there are millions of triples.
func rulesHold(a, b, c api.Rights) bool {
	ab, bc := rights.Join(a, b), rights.Join(b, c)
	if rights.Join(ab, c) != rights.Join(a, bc) {
		return false
	}
	if rights.Meet(rights.Meet(a, b), c) != rights.Meet(a, rights.Meet(b, c)) {
		return false
	}
	// What covers a and b covers their union, and the other way round.
	return (rights.Covers(c, a) && rights.Covers(c, b)) == rights.Covers(c, ab)
}

func TestTriples(t *testing.T) {
	eachPair(func(a, b api.Rights) {
		for n := range allSets {
			if !rulesHold(a, b, api.Rights(n)) {
				t.Errorf("P13.1: the rules of a lattice do not hold for %d, %d and %d", a, b, n)
			}
		}
	})
}
