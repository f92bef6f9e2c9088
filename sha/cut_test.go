package sha_test

import (
	"crypto/sha256"
	"testing"

	"coffer/api"
	"coffer/sha"
)

// numbers gives a row of numbers that looks random and is the same in every run.
func numbers(seed uint64) func() uint64 {
	return func() uint64 {
		seed ^= seed << 13
		seed ^= seed >> 7
		seed ^= seed << 17
		return seed
	}
}

func dataOf(n int) []byte {
	next := numbers(uint64(n) + 1)
	b := make([]byte, n)
	for i := range b {
		b[i] = byte(next() >> 20)
	}
	return b
}

// endsOfBlocks has the lengths about the ends of blocks and of the room for data in a last block.
func endsOfBlocks() []int {
	return []int{0, 1, 54, 55, 56, 57, 63, 64, 65, 118, 119, 120, 121, 127, 128, 129, 183, 184, 191, 192, 193}
}

func wantSum(t *testing.T, what string, h *sha.Hash, data []byte) {
	t.Helper()
	if got := h.Sum(); got != sha256.Sum256(data) {
		t.Errorf("P2.1: %s: the sum of %d bytes: %x", what, len(data), got)
	}
	if got := h.Len(); got != uint64(len(data)) {
		t.Errorf("P2.1: %s: Len of %d bytes: %d", what, len(data), got)
	}
}

func TestEveryLength(t *testing.T) {
	for n := range 600 {
		data := dataOf(n)
		h := sha.New()
		h.Write(data)
		wantSum(t, "one Write", h, data)
		if got := sha.Of(data); got != sha256.Sum256(data) {
			t.Errorf("P2.2: the sum of %d bytes: %x", n, got)
		}
	}
}

func TestLongData(t *testing.T) {
	for _, n := range []int{4095, 4096, 4097, 65535, 65536, 65537, 1<<20 - 9, 1 << 20} {
		data := dataOf(n)
		h := sha.New()
		h.Write(data)
		wantSum(t, "one long Write", h, data)
	}
}

// More than 2^32 bits: the length at the end takes more than four bytes.
func TestLengthOfManyBits(t *testing.T) {
	if testing.Short() {
		t.Skip("hashes 512 MiB")
	}
	h, want := sha.New(), sha256.New()
	piece := dataOf(1 << 20)
	for range 512 {
		h.Write(piece)
		want.Write(piece)
	}
	if h.Sum() != api.ID(want.Sum(nil)) || h.Len() != 1<<29 {
		t.Errorf("P2.1: 512 MiB: %x %d", h.Sum(), h.Len())
	}
}

func TestByteByByte(t *testing.T) {
	data := dataOf(400)
	h := sha.New()
	for n := range data {
		wantSum(t, "byte by byte", h, data[:n])
		h.Write(data[n : n+1])
	}
	wantSum(t, "byte by byte", h, data)
}

func TestTwoAndThreePieces(t *testing.T) {
	for _, n := range endsOfBlocks() {
		data := dataOf(n)
		for cut := range n + 1 {
			h := sha.New()
			h.Write(data[:cut])
			h.Write(data[cut:])
			wantSum(t, "two pieces", h, data)
			for _, end := range endsOfBlocks() {
				if end < cut || end > n {
					continue
				}
				h := sha.New()
				h.Write(data[:cut])
				h.Write(data[cut:end])
				h.Write(data[end:])
				wantSum(t, "three pieces", h, data)
			}
		}
	}
}

// cuts divides data into pieces, among them empty and nil ones, and ones over several blocks.
func cuts(data []byte, next func() uint64) [][]byte {
	var l [][]byte
	for len(data) > 0 {
		n := 0
		switch next() % 5 {
		case 0:
			l = append(l, nil)
		case 1:
			n = int(next() % 4)
		case 2:
			n = int(next() % 70)
		case 3:
			n = int(next() % 300)
		case 4:
			ends := endsOfBlocks()
			n = ends[next()%uint64(len(ends))]
		}
		n = min(n, len(data))
		l = append(l, data[:n])
		data = data[n:]
	}
	return l
}

func TestManyCuts(t *testing.T) {
	next := numbers(3)
	for range 3000 {
		data := dataOf(int(next() % 700))
		h := sha.New()
		pieces := cuts(data, next)
		for _, piece := range pieces {
			h.Write(piece)
		}
		wantSum(t, "many cuts", h, data)
		if got := sha.Of(pieces...); got != sha256.Sum256(data) {
			t.Errorf("P2.2: %d bytes in %d parts: %x", len(data), len(pieces), got)
		}
	}
}

func TestNothingWritten(t *testing.T) {
	h := sha.New()
	wantSum(t, "New", h, nil)
	h.Write(nil)
	h.Write([]byte{})
	wantSum(t, "empty writes", h, nil)
	data := dataOf(64)
	h.Write(data)
	h.Write(nil)
	wantSum(t, "an empty write behind a block", h, data)
}

func TestSumInBetween(t *testing.T) {
	next := numbers(4)
	for range 500 {
		data := dataOf(int(next() % 400))
		h := sha.New()
		n := 0
		for _, piece := range cuts(data, next) {
			for range next() % 3 {
				wantSum(t, "in between", h, data[:n])
			}
			h.Write(piece)
			n += len(piece)
		}
		wantSum(t, "with sums in between", h, data)
		wantSum(t, "once more", h, data)
	}
}

func TestOfParts(t *testing.T) {
	empty := sha256.Sum256(nil)
	for i, parts := range [][][]byte{nil, {}, {nil}, {{}}, {nil, {}, nil}} {
		if got := sha.Of(parts...); got != empty {
			t.Errorf("P2.2: %d: without bytes: %x", i, got)
		}
	}
	for _, n := range endsOfBlocks() {
		data := dataOf(n)
		want := sha256.Sum256(data)
		for cut := range n + 1 {
			if sha.Of(data[:cut], data[cut:]) != want || sha.Of(nil, data[:cut], nil, data[cut:], nil) != want {
				t.Errorf("P2.2: %d bytes, cut at %d", n, cut)
			}
		}
	}
	if sha.Of([]byte{1}, []byte{2}) == sha.Of([]byte{2}, []byte{1}) {
		t.Error("P2.2: the order of the parts does not count")
	}
}
