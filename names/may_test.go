package names_test

import (
	"strings"
	"testing"

	"coffer/names"
)

const (
	letters = "abcdefghijklmnopqrstuvwxyz"
	behind  = letters + "0123456789-" // what may follow a name's first byte
)

func wantMay(t *testing.T, s string, want bool) {
	t.Helper()
	if names.May(s) != want {
		t.Errorf("P4.1: May(%q): not %t", s, want)
	}
}

func has(set string, c byte) bool {
	return strings.IndexByte(set, c) >= 0
}

func TestMayExamples(t *testing.T) {
	wantMay(t, "a-1", true)
	wantMay(t, "1a", false)
	wantMay(t, "A", false)
	wantMay(t, "", false)
}

func TestMayOfEveryLength(t *testing.T) {
	for n := range 100 {
		may := n >= 1 && n <= 16
		for _, c := range []string{"a", "m", "z"} {
			wantMay(t, strings.Repeat(c, n), may)
		}
		if n > 0 {
			for _, c := range []string{"-", "0", "9", "b"} {
				wantMay(t, "a"+strings.Repeat(c, n-1), may)
			}
		}
		for _, c := range []string{"A", "0", "-", "\x00", "\xff", "é"} {
			wantMay(t, strings.Repeat(c, n), false)
		}
	}
	for _, n := range []int{255, 256, 257, 272, 1<<16 + 1, 1<<20 + 16} {
		wantMay(t, strings.Repeat("a", n), false)
	}
}

func TestMayOfOneByte(t *testing.T) {
	for c := range 256 {
		wantMay(t, string([]byte{byte(c)}), has(letters, byte(c)))
	}
}

func TestMayOfEachByteAnywhere(t *testing.T) {
	for n := 1; n <= 18; n++ {
		for at := range n {
			for c := range 256 {
				name := []byte(strings.Repeat("k", n))
				name[at] = byte(c)
				set := behind
				if at == 0 {
					set = letters
				}
				wantMay(t, string(name), n <= 16 && has(set, byte(c)))
			}
		}
	}
}

func TestMayOfEveryTwoBytes(t *testing.T) {
	for c := range 256 {
		for d := range 256 {
			wantMay(t, string([]byte{byte(c), byte(d)}), has(letters, byte(c)) && has(behind, byte(d)))
		}
	}
}

func TestMayOfWholeAlphabets(t *testing.T) {
	for _, s := range []string{"abcdefghijklmnop", "qrstuvwxyz012345", "z6789-----------", "a--------------0", "x-", "x9"} {
		wantMay(t, s, true)
		wantMay(t, s+"\n", false)
		wantMay(t, " "+s, false)
		wantMay(t, strings.ToUpper(s), false)
	}
}

// The limit is one of bytes, not of runes, and letters of other alphabets are none.
func TestMayOfOtherRunes(t *testing.T) {
	for _, r := range []string{"é", "ß", "ａ", "а", "٣", "１", "–", "\u200b", "\ufffd", "𝐚", "ſ", "K"} {
		wantMay(t, r, false)
		wantMay(t, "a"+r, false)
		wantMay(t, "a"+r+"b", false)
		wantMay(t, strings.Repeat(r, 16), false)
	}
}
