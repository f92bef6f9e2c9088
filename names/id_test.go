package names_test

import (
	"encoding/hex"
	"strings"
	"testing"

	"coffer/api"
	"coffer/names"
)

func wantNoID(t *testing.T, s string, want api.Errno) {
	t.Helper()
	if got, e := names.ID(s); e != want || got != (api.ID{}) {
		t.Errorf("P4.2: ID of %d bytes, %.80q: %v %d, not %d", len(s), s, got, e, want)
	}
}

func wantID(t *testing.T, id api.ID) {
	t.Helper()
	if got, e := names.ID(hex.EncodeToString(id[:])); e != api.OK || got != id {
		t.Errorf("P4.2: ID of %x: %x %d", id, got, e)
	}
	if got, e := names.ID(names.Hex(id[:])); e != api.OK || got != id {
		t.Errorf("P4.2: ID(Hex(%x)): %x %d", id, got, e)
	}
}

func TestIDExamples(t *testing.T) {
	wantNoID(t, "00", api.ErrSize)
}

func TestIDOfManyIDs(t *testing.T) {
	wantID(t, api.ID{})
	for at := range 32 {
		for c := range 256 {
			var id api.ID
			id[at] = byte(c)
			wantID(t, id)
		}
	}
	data := dataOf(3000)
	for i := range 2900 {
		wantID(t, api.ID(data[i:i+32]))
	}
}

func TestIDOfOtherLengths(t *testing.T) {
	for n := range 300 {
		if n == 64 {
			continue
		}
		want := api.ErrSize
		if n%2 == 1 {
			want = api.ErrSyntax
		}
		for _, c := range []string{"0", "9", "a", "f"} {
			wantNoID(t, strings.Repeat(c, n), want)
		}
		wantNoID(t, hex.EncodeToString(dataOf(n))[:n], want)
	}
	for _, n := range []int{320, 320 + 64, 1<<16 + 64, 1 << 20} {
		wantNoID(t, strings.Repeat("0", n), api.ErrSize)
		wantNoID(t, strings.Repeat("0", n+1), api.ErrSyntax)
	}
}

// Of two errors, the syntax comes first, wherever its byte stands.
func TestIDErrorsInOrder(t *testing.T) {
	for n := 1; n < 200; n++ {
		for _, at := range []int{0, n / 2, n - 1} {
			for _, c := range []byte("AFGgz -\x00\xff") {
				s := []byte(strings.Repeat("0", n))
				s[at] = c
				wantNoID(t, string(s), api.ErrSyntax)
			}
		}
	}
	wantNoID(t, "", api.ErrSize)
	wantNoID(t, "0", api.ErrSyntax)
	wantNoID(t, strings.Repeat("0", 63), api.ErrSyntax)
	wantNoID(t, strings.Repeat("0", 65), api.ErrSyntax)
	wantNoID(t, strings.Repeat("00", 31), api.ErrSize)
	wantNoID(t, strings.Repeat("00", 33), api.ErrSize)
	wantNoID(t, strings.Repeat("F", 64), api.ErrSyntax)
	wantNoID(t, strings.Repeat("00", 32)+"G", api.ErrSyntax)
	wantNoID(t, strings.Repeat("00", 32)+"0g", api.ErrSyntax)
}
