package mac_test

import (
	"bytes"
	"crypto/hmac"
	"crypto/sha256"
	"math/rand/v2"
	"testing"

	"coffer/api"
	"coffer/mac"
)

// dataOf is n bytes that look random and are the same in every run.
func dataOf(n int) []byte {
	source := rand.NewPCG(3, uint64(n))
	b := make([]byte, n)
	for i := range b {
		b[i] = byte(source.Uint64())
	}
	return b
}

func byLibrary(key, b []byte) api.ID {
	h := hmac.New(sha256.New, key)
	h.Write(b)
	return api.ID(h.Sum(nil))
}

// byTheBook is RFC 2104's construction, word for word.
func byTheBook(key, b []byte) api.ID {
	if len(key) > 64 {
		sum := sha256.Sum256(key)
		key = sum[:]
	}
	var inner, outer []byte
	for _, c := range append(bytes.Clone(key), make([]byte, 64-len(key))...) {
		inner = append(inner, c^0x36)
		outer = append(outer, c^0x5c)
	}
	sum := sha256.Sum256(append(inner, b...))
	return sha256.Sum256(append(outer, sum[:]...))
}

func wantRaw(t *testing.T, key, b []byte) {
	t.Helper()
	got := mac.Raw(key, b)
	if got != byLibrary(key, b) || got != byTheBook(key, b) {
		t.Errorf("P3.1: Raw of %d bytes under a key of %d: %x", len(b), len(key), got)
	}
}

// lengths has those about the ends of blocks and of the room for data in a last block, and far longer ones.
func lengths() []int {
	return []int{0, 1, 31, 32, 33, 54, 55, 56, 57, 63, 64, 65, 66, 119, 120, 127, 128, 129, 1000, 4096, 65537}
}

func TestRawOfEveryKeyLength(t *testing.T) {
	for n := range 300 {
		for _, m := range []int{0, 1, 55, 56, 64, 200} {
			wantRaw(t, dataOf(n), dataOf(m))
		}
	}
}

func TestRawOfEveryDataLength(t *testing.T) {
	for m := range 300 {
		for _, n := range []int{0, 1, 32, 63, 64, 65, 200} {
			wantRaw(t, dataOf(n), dataOf(m))
		}
	}
}

func TestRawOfLongKeysAndData(t *testing.T) {
	for _, n := range lengths() {
		for _, m := range lengths() {
			wantRaw(t, dataOf(n), dataOf(m))
		}
	}
	wantRaw(t, dataOf(1<<20+1), dataOf(1<<20+1))
}

// Keys of one byte over and over, among them those that the masks turn to zeros.
func TestRawOfEvenKeys(t *testing.T) {
	for _, c := range []byte{0, 1, 0x36, 0x5c, 0x6a, 127, 128, 255} {
		for n := range 130 {
			wantRaw(t, repeated(c, n), []byte("x"))
		}
	}
}

func TestRawOfNothing(t *testing.T) {
	want := byLibrary(nil, nil)
	for _, key := range [][]byte{nil, {}, dataOf(9)[:0]} {
		for _, b := range [][]byte{nil, {}, dataOf(9)[:0]} {
			if got := mac.Raw(key, b); got != want {
				t.Errorf("P0.4: Raw of no key and no bytes: %x", got)
			}
		}
	}
}

// RFC 2104 fills a key up with zeros, and takes the hash of one that is longer than a block.
func TestRawOfKeysThatAreOneBlock(t *testing.T) {
	b := []byte("data")
	for n := range 70 {
		key := dataOf(n)
		same := mac.Raw(key, b) == mac.Raw(append(key, 0), b)
		if same != (n < 64) {
			t.Errorf("P3.1: a key of %d bytes and a zero behind it: alike: %t", n, same)
		}
	}
	for _, n := range []int{64, 65, 1000} {
		sum := sha256.Sum256(dataOf(n))
		same := mac.Raw(dataOf(n), b) == mac.Raw(sum[:], b)
		if same != (n > 64) {
			t.Errorf("P3.1: a key of %d bytes and its hash: alike: %t", n, same)
		}
	}
}

func TestRawOfEachBit(t *testing.T) {
	for _, n := range []int{1, 32, 63, 64, 65, 130} {
		seen := map[api.ID]bool{mac.Raw(dataOf(n), dataOf(n)): true}
		for i := range 8 * n {
			changed := dataOf(n)
			changed[i/8] ^= 1 << (i % 8)
			seen[mac.Raw(changed, dataOf(n))] = true
			seen[mac.Raw(dataOf(n), changed)] = true
		}
		if len(seen) != 1+16*n {
			t.Errorf("P3.1: %d bytes, each bit changed: %d codes", n, len(seen))
		}
	}
}
