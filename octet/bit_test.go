package octet_test

import (
	"bytes"
	"math"
	"testing"

	"coffer/api"
	"coffer/octet"
)

func TestBitExamples(t *testing.T) {
	wantBit(t, []byte{4}, 2, true)
	wantNoBit(t, []byte{4}, 8)
}

func wantBit(t *testing.T, b []byte, i int, want bool) {
	t.Helper()
	if on, e := octet.Bit(b, i); e != api.OK || on != want {
		t.Errorf("P1.5: Bit(%v, %d): %t %d", b, i, on, e)
	}
}

func wantNoBit(t *testing.T, b []byte, i int) {
	t.Helper()
	if on, e := octet.Bit(b, i); e != api.ErrArg || on {
		t.Errorf("P1.5: Bit(%v, %d): %t %d", b, i, on, e)
	}
	for _, on := range []bool{true, false} {
		if got, e := octet.SetBit(b, i, on); e != api.ErrArg || len(got) != 0 {
			t.Errorf("P1.5: SetBit(%v, %d, %t): %v %d", b, i, on, got, e)
		}
	}
}

func TestBitOfEachByte(t *testing.T) {
	weights := []byte{1, 2, 4, 8, 16, 32, 64, 128}
	for c := range 256 {
		b := []byte{byte(^c), byte(c), byte(c >> 1)}
		for i := range 24 {
			wantBit(t, b, i, b[i/8]&weights[i%8] != 0)
		}
	}
}

func TestSetBitAlone(t *testing.T) {
	weights := []byte{1, 2, 4, 8, 16, 32, 64, 128}
	for _, b := range [][]byte{{0}, {255}, {0, 0}, {255, 255}, {85, 170, 0, 255, 1, 128}, {170, 85}} {
		for i := range 8 * len(b) {
			for _, on := range []bool{true, false} {
				want := bytes.Clone(b)
				had := want[i/8]&weights[i%8] != 0
				if had && !on {
					want[i/8] -= weights[i%8]
				}
				if !had && on {
					want[i/8] += weights[i%8]
				}
				got, e := octet.SetBit(b, i, on)
				if e != api.OK || !bytes.Equal(got, want) {
					t.Errorf("P1.5: SetBit(%v, %d, %t): %v %d, not %v", b, i, on, got, e, want)
				}
				wantBit(t, got, i, on)
			}
		}
	}
}

func TestNoSuchBit(t *testing.T) {
	for _, b := range [][]byte{nil, {}, {255}, {255, 255}, bytes.Repeat([]byte{255}, 100)} {
		n := 8 * len(b)
		for _, i := range []int{-1, -7, -8, -9, -n, n, n + 1, n + 7, n + 8, 1 << 31, 1 << 32, 1 << 61, 1 << 62, math.MaxInt, math.MinInt, math.MinInt + 1} {
			if i < 0 || i >= n {
				wantNoBit(t, b, i)
			}
		}
	}
}

func TestBitsBehindTheEnd(t *testing.T) {
	b := []byte{255, 255, 255}
	wantBit(t, b[:1], 7, true)
	wantNoBit(t, b[:1], 8)
	wantNoBit(t, b[:0], 0)
}
