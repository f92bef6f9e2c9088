package names_test

import (
	"bytes"
	"encoding/hex"
	"strings"
	"testing"

	"coffer/api"
	"coffer/names"
)

const hexDigits = "0123456789abcdef"

// numbers gives a row of numbers that looks random and is the same in every run.
func numbers(seed uint64) func() uint64 {
	return func() uint64 {
		seed ^= seed << 13
		seed ^= seed >> 7
		seed ^= seed << 17
		return seed
	}
}

func dataOf(n int) []byte {
	next := numbers(uint64(n) + 1)
	b := make([]byte, n)
	for i := range b {
		b[i] = byte(next() >> 20)
	}
	return b
}

func wantHex(t *testing.T, b []byte, s string) {
	t.Helper()
	if got := names.Hex(b); got != s {
		t.Errorf("P4.2: Hex(%v): %q, not %q", b, got, s)
	}
	if got, e := names.Unhex(s); e != api.OK || !bytes.Equal(got, b) {
		t.Errorf("P4.2: Unhex(%q): %v %d, not %v", s, got, e, b)
	}
}

func wantNoHex(t *testing.T, s string) {
	t.Helper()
	if got, e := names.Unhex(s); e != api.ErrSyntax || len(got) != 0 {
		t.Errorf("P4.2: Unhex(%q): %v %d", s, got, e)
	}
	if got, e := names.ID(s); e != api.ErrSyntax || got != (api.ID{}) {
		t.Errorf("P4.2: ID(%q): %v %d", s, got, e)
	}
}

func TestHexExamples(t *testing.T) {
	wantHex(t, []byte{10, 255}, "0aff")
}

func TestHexOfNothing(t *testing.T) {
	wantHex(t, nil, "")
	wantHex(t, []byte{}, "")
}

func TestHexOfEachByte(t *testing.T) {
	for c := range 256 {
		s := string([]byte{hexDigits[c/16], hexDigits[c%16]})
		wantHex(t, []byte{byte(c)}, s)
		wantHex(t, []byte{18, byte(c), 239}, "12"+s+"ef")
	}
}

func TestHexOfEveryLength(t *testing.T) {
	for n := range 300 {
		b := dataOf(n)
		wantHex(t, b, hex.EncodeToString(b))
		wantHex(t, make([]byte, n), strings.Repeat("00", n))
	}
	for _, n := range []int{4096, 65535, 65536, 65537, 1 << 20} {
		b := dataOf(n)
		wantHex(t, b, hex.EncodeToString(b))
	}
}

func TestUnhexOfEveryTwoBytes(t *testing.T) {
	for c := range 256 {
		for d := range 256 {
			s := string([]byte{byte(c), byte(d)})
			high, low := strings.IndexByte(hexDigits, byte(c)), strings.IndexByte(hexDigits, byte(d))
			if high < 0 || low < 0 {
				wantNoHex(t, s)
				continue
			}
			wantHex(t, []byte{byte(16*high + low)}, s)
		}
	}
}

func TestUnhexOfNoDigitAnywhere(t *testing.T) {
	for _, n := range []int{1, 2, 3, 4, 6, 62, 64, 66, 128} {
		for at := range n {
			for c := range 256 {
				s := []byte(strings.Repeat("7", n))
				s[at] = byte(c)
				if !has(hexDigits, byte(c)) {
					wantNoHex(t, string(s))
				}
			}
		}
	}
}

func TestUnhexOfUpperCase(t *testing.T) {
	for _, s := range []string{"A0", "0A", "AA", "Af", "fA", "0B", "0C", "0D", "0E", "0F", "F0", "0aFf", "0aff0X", "0x0a", "0X0A"} {
		wantNoHex(t, s)
	}
}

func TestUnhexOfOddNumbers(t *testing.T) {
	for n := 1; n < 200; n += 2 {
		wantNoHex(t, strings.Repeat("0", n))
		wantNoHex(t, strings.Repeat("f", n))
		wantNoHex(t, hex.EncodeToString(dataOf(n))[:n])
	}
	for _, c := range hexDigits {
		wantNoHex(t, string(c))
	}
}

func TestUnhexOfOtherForms(t *testing.T) {
	for _, s := range []string{" 0", "0 ", " 00", "00 ", "00\n", "0a ff", "0a:ff", "-1", "+1", "1_", "0g", "g0", "é", "ａ", "\x00\x00", "\xff\xff", "０"} {
		wantNoHex(t, s)
	}
}
