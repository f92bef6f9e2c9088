package mac_test

import (
	"bytes"
	"encoding/binary"
	"testing"

	"coffer/api"
	"coffer/mac"
)

// joined is each part behind its length in eight bytes.
func joined(parts [][]byte) []byte {
	var b []byte
	for _, part := range parts {
		b = binary.BigEndian.AppendUint64(b, uint64(len(part)))
		b = append(b, part...)
	}
	return b
}

func wantOf(t *testing.T, key []byte, parts ...[]byte) {
	t.Helper()
	got, whole := mac.Of(key, parts...), joined(parts)
	if got != byLibrary(key, whole) || got != mac.Raw(key, whole) {
		t.Errorf("P3.1: Of %d parts, %d bytes with their lengths, under a key of %d: %x", len(parts), len(whole), len(key), got)
	}
}

func TestOfNoParts(t *testing.T) {
	for _, n := range lengths() {
		key := dataOf(n)
		wantOf(t, key)
		if mac.Of(key) != byLibrary(key, nil) || mac.Of(key, [][]byte{}...) != byLibrary(key, nil) {
			t.Errorf("P3.1: no parts under a key of %d", n)
		}
	}
}

func TestOfEmptyParts(t *testing.T) {
	for _, n := range lengths() {
		key := dataOf(n)
		for many := range 20 {
			if got := mac.Of(key, make([][]byte, many)...); got != byLibrary(key, make([]byte, 8*many)) {
				t.Errorf("P3.1: %d empty parts under a key of %d: %x", many, n, got)
			}
		}
		if mac.Of(key, nil) != mac.Of(key, []byte{}) || mac.Of(key, nil, []byte{1}) != mac.Of(key, []byte{}, []byte{1}) {
			t.Errorf("P0.4: nil and empty parts under a key of %d", n)
		}
		wantOf(t, key, nil, []byte("a"), nil, nil, []byte("b"), nil)
	}
}

func TestOfOnePart(t *testing.T) {
	for n := range 300 {
		wantOf(t, []byte("key"), dataOf(n))
	}
	for _, n := range []int{255, 256, 257, 65535, 65536, 1<<24 - 1, 1 << 24} {
		wantOf(t, []byte("key"), dataOf(n))
	}
}

func TestOfSeveralParts(t *testing.T) {
	for _, n := range lengths() {
		for _, m := range lengths() {
			wantOf(t, dataOf(n), dataOf(m), dataOf(n), nil, dataOf(m))
		}
	}
	var many [][]byte
	for n := range 500 {
		many = append(many, dataOf(n%70))
	}
	wantOf(t, dataOf(65), many...)
}

// divided cuts b into parts that are not empty: behind each byte whose bit of cuts is set, and at the end.
func divided(b []byte, cuts int) [][]byte {
	var parts [][]byte
	start := 0
	for i := range b {
		if cuts>>i&1 == 1 || i == len(b)-1 {
			parts = append(parts, b[start:i+1])
			start = i + 1
		}
	}
	return parts
}

func TestOfPartsCutOtherwise(t *testing.T) {
	b := []byte{0, 0, 0, 0, 0, 0, 0, 1, 7}
	seen := map[api.ID]bool{}
	for cuts := range 1 << (len(b) - 1) {
		parts := divided(b, cuts)
		wantOf(t, []byte("key"), parts...)
		seen[mac.Of([]byte("key"), parts...)] = true
		for at := range len(parts) + 1 {
			wider := append(append(append([][]byte{}, parts[:at]...), nil), parts[at:]...)
			wantOf(t, []byte("key"), wider...)
			seen[mac.Of([]byte("key"), wider...)] = true
		}
	}
	// 2^8 lists without an empty part; one of k parts has k + 1 places for one, 6 on average.
	if want := 256 + 256*6; len(seen) != want {
		t.Errorf("P3.1: %d codes of %d lists of parts", len(seen), want)
	}
}

func TestOfPartsThatLookLikeLengths(t *testing.T) {
	key := []byte("key")
	two := mac.Of(key, []byte("a"), []byte("b"))
	inOne := []byte("a\x00\x00\x00\x00\x00\x00\x00\x01b")
	others := []api.ID{
		mac.Of(key, inOne),
		mac.Raw(key, inOne),
		mac.Of(key, []byte("ab")),
		mac.Of(key, []byte("b"), []byte("a")),
		mac.Of(key, joined([][]byte{[]byte("a"), []byte("b")})),
		mac.Of(key, []byte("a"), []byte("b"), nil),
		mac.Of([]byte("keya"), []byte("b")),
	}
	for i, other := range others {
		if two == other {
			t.Errorf("P3.1: %d: other parts have the same code", i)
		}
	}
}

func TestOfTheSamePartTwice(t *testing.T) {
	part := dataOf(70)
	wantOf(t, part, part, part)
	wantOf(t, part, part[:10], part[5:], part)
	if !bytes.Equal(part, dataOf(70)) {
		t.Error("P0.3: a part is changed")
	}
}
