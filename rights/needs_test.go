package rights_test

import (
	"math"
	"testing"

	"coffer/api"
	"coffer/rights"
)

func wantNeeds(t *testing.T, do int, want api.Rights) {
	t.Helper()
	if r, e := rights.Needs(do); r != want || e != api.OK {
		t.Errorf("P13.3: Needs(%d): %d %d, not %d", do, r, e, want)
	}
	if !rights.May(want) || rights.Rules(do) != (want == api.Admin) {
		t.Errorf("P13.3: Rules(%d): %t, though it needs %d", do, rights.Rules(do), want)
	}
}

func wantNoSuchOperation(t *testing.T, do int) {
	t.Helper()
	if r, e := rights.Needs(do); r != 0 || e != api.ErrArg {
		t.Errorf("P13.3: Needs(%d): %d %d, not 0 and ErrArg", do, r, e)
	}
	if rights.Rules(do) {
		t.Errorf("P13.3: Rules(%d): true", do)
	}
}

func TestNeedsExamples(t *testing.T) {
	wantNeeds(t, api.DoMark, api.Admin)
}

func TestNeedsOfEachOperation(t *testing.T) {
	wantNeeds(t, api.DoPut, api.Add)
	wantNeeds(t, api.DoGet, api.Read)
	wantNeeds(t, api.DoCommit, api.Add)
	wantNeeds(t, api.DoList, api.Read)
	wantNeeds(t, api.DoShow, api.Read)
	wantNeeds(t, api.DoRestore, api.Read)
	wantNeeds(t, api.DoDoom, api.Drop)
	wantNeeds(t, api.DoSpare, api.Drop)
	wantNeeds(t, api.DoKey, api.Read)
	wantNeeds(t, api.DoTenant, api.Admin)
	wantNeeds(t, api.DoQuota, api.Admin)
	wantNeeds(t, api.DoIssue, api.Admin)
	wantNeeds(t, api.DoRevoke, api.Admin)
	wantNeeds(t, api.DoMark, api.Admin)
	wantNeeds(t, api.DoSweep, api.Admin)
	wantNeeds(t, api.DoLog, api.Admin)
	wantNeeds(t, api.DoHead, api.Admin)
}

func TestNeedsByNumber(t *testing.T) {
	for i, want := range []api.Rights{2, 1, 2, 1, 1, 1, 4, 4, 1, 8, 8, 8, 8, 8, 8, 8, 8} {
		wantNeeds(t, i+1, want)
	}
}

func TestRulesOfEachOperation(t *testing.T) {
	for do := 1; do <= 17; do++ {
		if rights.Rules(do) != (do >= 10) {
			t.Errorf("P13.3: Rules(%d): %t", do, rights.Rules(do))
		}
	}
}

func TestNoSuchOperation(t *testing.T) {
	for _, do := range []int{0, -1, -2, -9, -10, -17, 18, 19, 20, 26, 27, 100, 255, 256, 1 << 31, 1 << 62, math.MaxInt - 1, math.MaxInt, math.MinInt, math.MinInt + 1} {
		wantNoSuchOperation(t, do)
	}
	for n := range 70000 {
		wantNoSuchOperation(t, 18+n)
		wantNoSuchOperation(t, -n)
	}
}

// Numbers that are those of operations in 8, 16, 32 or 63 bits.
func TestNoSuchOperationIfCutOff(t *testing.T) {
	for _, front := range []int{1 << 8, 1 << 16, 1 << 31, 1 << 32, 1 << 48, 1 << 62, math.MinInt} {
		for do := 0; do <= 18; do++ {
			wantNoSuchOperation(t, front+do)
			wantNoSuchOperation(t, -front+do)
			wantNoSuchOperation(t, -(front + do))
		}
	}
}

// The operations that a set may do are counted, so that none is let through by rights that are not its own.
func TestWhatTheWordsMayDo(t *testing.T) {
	rows := []struct {
		has api.Rights
		may int
	}{{0, 0}, {api.Reader, 5}, {api.Adder, 7}, {api.Full, 9}, {api.Ruler, 17}, {api.Add, 2}, {api.Drop, 2}, {api.Admin, 8}}
	for _, x := range rows {
		may := 0
		for do := 1; do <= 17; do++ {
			if need, e := rights.Needs(do); e == api.OK && rights.Covers(x.has, need) {
				may++
			}
		}
		if may != x.may {
			t.Errorf("P13.3: %s may do %d operations, not %d", rights.Word(x.has), may, x.may)
		}
	}
}
