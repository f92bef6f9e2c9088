package names_test

import (
	"bytes"
	"encoding/hex"
	"strings"
	"testing"

	"coffer/api"
	"coffer/names"
)

// withRoom is b with foreign bytes in front of it and in its unused capacity; whole is all of that.
func withRoom(b []byte) (whole, given []byte) {
	whole = bytes.Repeat([]byte{165}, len(b)+200)
	copy(whole[100:], b)
	return whole, whole[100 : 100+len(b)]
}

func writeOver(b []byte) {
	b = b[:cap(b)]
	for i := range b {
		b[i] ^= 255
	}
}

func TestHexLeavesItsArgument(t *testing.T) {
	for n := range 100 {
		whole, given := withRoom(dataOf(n))
		got := names.Hex(given)
		if want, _ := withRoom(dataOf(n)); !bytes.Equal(whole, want) {
			t.Errorf("P0.3: Hex of %d bytes changes its argument", n)
		}
		writeOver(whole)
		if got != hex.EncodeToString(dataOf(n)) {
			t.Errorf("P0.3: Hex of %d bytes changes with its argument, or depends on its capacity", n)
		}
	}
}

func TestUnhexAnswersNewMemory(t *testing.T) {
	for n := range 100 {
		s := hex.EncodeToString(dataOf(n))
		first, _ := names.Unhex(s)
		second, _ := names.Unhex(s)
		writeOver(first)
		third, _ := names.Unhex(s)
		if !bytes.Equal(second, dataOf(n)) || !bytes.Equal(third, dataOf(n)) || s != hex.EncodeToString(dataOf(n)) {
			t.Errorf("P0.3: Unhex of %d digits: results share memory", 2*n)
		}
	}
}

func TestIDsAreValues(t *testing.T) {
	s := hex.EncodeToString(dataOf(32))
	first, _ := names.ID(s)
	writeOver(first[:])
	if second, e := names.ID(s); e != api.OK || !bytes.Equal(second[:], dataOf(32)) {
		t.Errorf("P0.3: an id that was written over changes a later one: %x", second)
	}
}

// What a call answers does not hang on the calls in between.
func TestCallsDoNotInfluenceEachOther(t *testing.T) {
	for _, s := range []string{"", "0", "0aff", "g", "99999999999999999999", strings.Repeat("0", 64), strings.Repeat("a", 1<<16), "\xff"} {
		names.May(s)
		names.Hex([]byte(s))
		names.Unhex(s)
		names.ID(s)
		names.Number(s)
		names.Print(int64(len(s)))
		if !names.May("a-1") || names.Hex([]byte{10, 255}) != "0aff" || names.Print(-12) != "-12" {
			t.Errorf("P0.5: another answer behind %.20q", s)
		}
		wantHex(t, dataOf(9), hex.EncodeToString(dataOf(9)))
		wantNumber(t, "120", 120, api.OK)
		wantID(t, api.ID(dataOf(32)))
	}
}
