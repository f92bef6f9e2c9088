package rights_test

import (
	"strconv"
	"testing"

	"coffer/api"
	"coffer/rights"
)

func wantWord(t *testing.T, r api.Rights, s string) {
	t.Helper()
	if got := rights.Word(r); got != s {
		t.Errorf("P13.2: Word(%d): %q, not %q", r, got, s)
	}
}

func TestWordExamples(t *testing.T) {
	wantWord(t, 3, "add")
	wantWord(t, 5, "5")
}

func TestWordOfValidSets(t *testing.T) {
	words := []string{"0", "read", "2", "add", "4", "5", "6", "full", "8", "9", "10", "11", "12", "13", "14", "rule"}
	for r, s := range words {
		wantWord(t, api.Rights(r), s)
	}
	wantWord(t, api.Reader, "read")
	wantWord(t, api.Adder, "add")
	wantWord(t, api.Full, "full")
	wantWord(t, api.Ruler, "rule")
	wantWord(t, api.Admin, "8")
}

func TestWordOfOtherSets(t *testing.T) {
	for r, s := range map[api.Rights]string{16: "16", 17: "17", 19: "19", 23: "23", 31: "31", 99: "99", 100: "100", 128: "128", 143: "143", 200: "200", 254: "254", 255: "255"} {
		wantWord(t, r, s)
	}
	for r := 16; r < allSets; r++ {
		wantWord(t, api.Rights(r), strconv.Itoa(r))
	}
}

func TestNoTwoSetsHaveOneWord(t *testing.T) {
	seen := map[string]int{}
	for r := range allSets {
		s := rights.Word(api.Rights(r))
		if other, ok := seen[s]; ok {
			t.Errorf("P13.2: %q stands for %d and %d", s, other, r)
		}
		seen[s] = r
	}
}

func TestParseOfWord(t *testing.T) {
	for n := range allSets {
		r := api.Rights(n)
		got, e := rights.Parse(rights.Word(r))
		if (got == r && e == api.OK) != rights.May(r) {
			t.Errorf("P13.2: Parse(Word(%d)): %d %d", r, got, e)
		}
		if !rights.May(r) && (got != 0 || e != api.ErrSyntax) {
			t.Errorf("P13.2: Parse(Word(%d)): %d %d", r, got, e)
		}
	}
}
