package mac_test

import (
	"encoding/binary"
	"math"
	"strings"
	"testing"

	"coffer/api"
	"coffer/mac"
)

func numbersOfEachWidth() []uint64 {
	l := []uint64{0, 258, 0x0102030405060708, math.MaxUint64}
	for i := range 64 {
		l = append(l, 1<<i, 1<<i-1)
	}
	return l
}

func labels() []string {
	return []string{"", "a", "b", "ab", "ba", "A", "label", "key\x00", "key", "\x00", "\x00\x00", "\xff\xfe", "é", strings.Repeat("x", 64), strings.Repeat("x", 65), strings.Repeat("long", 5000)}
}

func keys() []api.ID {
	return []api.ID{{}, {1}, {31: 1}, {1, 2}, api.ID(repeated(255, 32)), api.ID(dataOf(32))}
}

func TestDeriveOfEachKeyLabelAndNumber(t *testing.T) {
	for _, key := range keys() {
		for _, label := range labels() {
			for _, n := range numbersOfEachWidth() {
				got := mac.Derive(key, label, n)
				number := binary.BigEndian.AppendUint64(nil, n)
				parts := [][]byte{[]byte(label), number}
				if got != byLibrary(key[:], joined(parts)) || got != mac.Of(key[:], parts...) {
					t.Errorf("P3.2: Derive(%x, %d bytes, %d): %x", key, len(label), n, got)
				}
			}
		}
	}
}

func TestDerivedKeysAreUnlike(t *testing.T) {
	seen := map[api.ID]string{}
	for _, key := range keys() {
		for _, label := range labels() {
			for n := range uint64(300) {
				id := mac.Derive(key, label, n)
				if other, ok := seen[id]; ok {
					t.Errorf("P3.2: labels %q and %q, the latter with %d: one key", other, label, n)
				}
				seen[id] = label
			}
		}
	}
}

// A label that ends in what could be the number, and the parts the other way round.
func TestDeriveKeepsLabelAndNumberApart(t *testing.T) {
	key := api.ID{7}
	number := []byte{0, 0, 0, 0, 0, 0, 0, 5}
	got := mac.Derive(key, "label", 5)
	others := []api.ID{
		mac.Derive(key, "label"+string(number), 5),
		mac.Derive(key, "label"+string(number), 0),
		mac.Derive(key, string(number), 5),
		mac.Derive(key, "label", 5<<56),
		mac.Of(key[:], number, []byte("label")),
		mac.Of(key[:], []byte("label"+string(number))),
		mac.Raw(key[:], []byte("label"+string(number))),
	}
	for i, other := range others {
		if got == other {
			t.Errorf("P3.2: %d: the same key", i)
		}
	}
}

func TestDeriveAlong(t *testing.T) {
	key := api.ID(dataOf(32))
	want := key
	for n := range uint64(50) {
		key = mac.Derive(key, "next", n)
		want = byLibrary(want[:], joined([][]byte{[]byte("next"), binary.BigEndian.AppendUint64(nil, n)}))
		if key != want {
			t.Fatalf("P3.2: the key derived from the %dth: %x", n, key)
		}
	}
}
