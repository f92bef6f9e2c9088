package octet_test

import (
	"bytes"
	"encoding/binary"
	"math"
	"testing"

	"coffer/api"
	"coffer/octet"
)

// badWidths has 1<<61 and its neighbour: eight times these wrap round to 0 and to 8.
var badWidths = []int{0, 9, -1, -8, 64, 1 << 61, 1<<61 + 1, math.MaxInt, math.MinInt}

func TestPutExamples(t *testing.T) {
	got, e := octet.Put([]byte{9}, 258, 2)
	if e != api.OK || !bytes.Equal(got, []byte{9, 1, 2}) {
		t.Errorf("P1.1: Put({9}, 258, 2): %v %d", got, e)
	}
	got, e = octet.Put(nil, 256, 1)
	if e != api.ErrLong || len(got) != 0 {
		t.Errorf("P1.1: Put(nil, 256, 1): %v %d", got, e)
	}
	v, e := octet.At([]byte{1, 2, 3}, 1, 2)
	if e != api.OK || v != 515 {
		t.Errorf("P1.1: At({1, 2, 3}, 1, 2): %d %d", v, e)
	}
	v, e = octet.At([]byte{1}, 0, 2)
	if e != api.ErrShort || v != 0 {
		t.Errorf("P1.1: At({1}, 0, 2): %d %d", v, e)
	}
}

// bigEndian is the last n of the eight bytes that the library gives.
func bigEndian(v uint64, n int) []byte {
	var all [8]byte
	binary.BigEndian.PutUint64(all[:], v)
	return all[8-n:]
}

func fits(v uint64, n int) bool {
	return n == 8 || v < 1<<(8*n)
}

func TestPutEveryWidth(t *testing.T) {
	for _, head := range [][]byte{nil, {}, {9}, {0, 0}, {255, 1, 254, 2, 253}} {
		for _, v := range edgeNumbers() {
			for n := 1; n <= 8; n++ {
				got, e := octet.Put(head, v, n)
				if !fits(v, n) {
					if e != api.ErrLong || len(got) != 0 {
						t.Errorf("P1.1: Put(%v, %d, %d): %v %d", head, v, n, got, e)
					}
					continue
				}
				want := append(bytes.Clone(head), bigEndian(v, n)...)
				if e != api.OK || !bytes.Equal(got, want) {
					t.Errorf("P1.1: Put(%v, %d, %d): %v %d", head, v, n, got, e)
				}
			}
		}
	}
}

func TestPutBoundOfEachWidth(t *testing.T) {
	for n := 1; n <= 7; n++ {
		most := uint64(1)<<(8*n) - 1
		if got, e := octet.Put(nil, most, n); e != api.OK || !bytes.Equal(got, bytes.Repeat([]byte{255}, n)) {
			t.Errorf("P1.1: Put(nil, %d, %d): %v %d", most, n, got, e)
		}
		if got, e := octet.Put(nil, most+1, n); e != api.ErrLong || len(got) != 0 {
			t.Errorf("P1.1: Put(nil, %d, %d): %v %d", most+1, n, got, e)
		}
		if got, e := octet.Put([]byte{1}, 1<<63, n); e != api.ErrLong || len(got) != 0 {
			t.Errorf("P1.1: Put({1}, 1<<63, %d): %v %d", n, got, e)
		}
	}
	if got, e := octet.Put(nil, math.MaxUint64, 8); e != api.OK || !bytes.Equal(got, bytes.Repeat([]byte{255}, 8)) {
		t.Errorf("P1.1: Put(nil, MaxUint64, 8): %v %d", got, e)
	}
}

func TestPutWrongWidthComesFirst(t *testing.T) {
	for _, n := range badWidths {
		for _, v := range []uint64{0, 1, 256, math.MaxUint64} {
			got, e := octet.Put([]byte{1, 2}, v, n)
			if e != api.ErrArg || len(got) != 0 {
				t.Errorf("P1.1: Put({1, 2}, %d, %d): %v %d", v, n, got, e)
			}
		}
	}
}

func TestAtEveryPlace(t *testing.T) {
	b := []byte{0, 1, 128, 255, 0, 127, 254, 3, 200, 0, 0, 9}
	for size := range len(b) + 1 {
		for n := 1; n <= 8; n++ {
			for at := range size + 3 {
				got, e := octet.At(b[:size], at, n)
				if at+n > size {
					if e != api.ErrShort || got != 0 {
						t.Errorf("P1.1: At(%v, %d, %d): %d %d", b[:size], at, n, got, e)
					}
					continue
				}
				var all [8]byte
				copy(all[8-n:], b[at:at+n])
				if want := binary.BigEndian.Uint64(all[:]); e != api.OK || got != want {
					t.Errorf("P1.1: At(%v, %d, %d): %d %d, not %d", b[:size], at, n, got, e, want)
				}
			}
		}
	}
}

func TestAtHighestNumber(t *testing.T) {
	b := bytes.Repeat([]byte{255}, 9)
	if got, e := octet.At(b, 1, 8); e != api.OK || got != math.MaxUint64 {
		t.Errorf("P1.1: eight bytes of 255: %d %d", got, e)
	}
	if got, e := octet.At([]byte{128, 0, 0, 0, 0, 0, 0, 0}, 0, 8); e != api.OK || got != 1<<63 {
		t.Errorf("P1.1: the highest bit: %d %d", got, e)
	}
}

func TestAtFarOffsets(t *testing.T) {
	for n := 1; n <= 8; n++ {
		for _, b := range [][]byte{nil, {}, {1, 2, 3}, make([]byte, 20)} {
			for _, at := range []int{len(b), len(b) + 1, 1 << 31, 1 << 32, 1 << 62, math.MaxInt - 8, math.MaxInt - n, math.MaxInt - n + 1, math.MaxInt} {
				if got, e := octet.At(b, at, n); e != api.ErrShort || got != 0 {
					t.Errorf("P1.1: At(%v, %d, %d): %d %d", b, at, n, got, e)
				}
			}
			for _, at := range []int{-1, -n, -8, -1 << 32, math.MinInt, math.MinInt + 1} {
				if got, e := octet.At(b, at, n); e != api.ErrArg || got != 0 {
					t.Errorf("P1.1: At(%v, %d, %d): %d %d", b, at, n, got, e)
				}
			}
		}
	}
}

func TestAtWrongWidthComesFirst(t *testing.T) {
	for _, n := range badWidths {
		for _, at := range []int{0, 1, 3, 4, -1, math.MaxInt, math.MinInt} {
			for _, b := range [][]byte{nil, {1, 2, 3}, make([]byte, 20)} {
				if got, e := octet.At(b, at, n); e != api.ErrArg || got != 0 {
					t.Errorf("P1.1: At(%v, %d, %d): %d %d", b, at, n, got, e)
				}
			}
		}
	}
}

func TestAtReadsWhatPutWrote(t *testing.T) {
	for _, v := range edgeNumbers() {
		for n := 1; n <= 8; n++ {
			if !fits(v, n) {
				continue
			}
			b, _ := octet.Put([]byte{7, 7, 7}, v, n)
			if got, e := octet.At(append(b, 5), 3, n); e != api.OK || got != v {
				t.Errorf("P1.1: %d in %d bytes comes back as %d %d", v, n, got, e)
			}
		}
	}
}

func TestPutKeepsOrder(t *testing.T) {
	numbers := edgeNumbers()
	for n := 1; n <= 8; n++ {
		for _, v := range numbers {
			for _, w := range numbers {
				if !fits(v, n) || !fits(w, n) {
					continue
				}
				a, _ := octet.Put(nil, v, n)
				b, _ := octet.Put(nil, w, n)
				if (bytes.Compare(a, b) < 0) != (v < w) {
					t.Fatalf("P1.1: the order of %d and %d in %d bytes", v, w, n)
				}
			}
		}
	}
}
