package rights_test

import (
	"math"
	"strings"
	"testing"

	"coffer/api"
	"coffer/rights"
)

// trace has all that one round of calls answers.
func trace() []int {
	var out []int
	tell := func(ok bool, r api.Rights, e api.Errno) {
		n := 0
		if ok {
			n = 1
		}
		out = append(out, n, int(r), int(e))
	}
	for n := range allSets {
		a, b := api.Rights(n), api.Rights(3*n)
		tell(rights.May(a), rights.Meet(a, b), 0)
		tell(rights.Covers(a, b), rights.Join(a, b), 0)
		r, e := rights.Parse(rights.Word(a))
		tell(false, r, e)
	}
	for do := -2; do < 20; do++ {
		r, e := rights.Needs(do)
		tell(rights.Rules(do), r, e)
	}
	return out
}

// What a call answers does not hang on the calls in between, those with wrong arguments among them.
func TestCallsDoNotInfluenceEachOther(t *testing.T) {
	want := trace()
	for _, s := range []string{"", "0", "15", "16", "read", "Rule", "\xff", strings.Repeat("9", 1<<16)} {
		rights.Parse(s)
		rights.Needs(math.MinInt)
		rights.Rules(len(s))
		rights.Word(255)
		got := trace()
		for i := range want {
			if got[i] != want[i] {
				t.Fatalf("P0.5: another answer behind %.20q", s)
			}
		}
	}
}
