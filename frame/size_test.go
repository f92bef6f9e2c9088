package frame_test

import (
	"math"
	"testing"

	"coffer/api"
	"coffer/frame"
)

func wantSize(t *testing.T, n, want int) {
	t.Helper()
	if got := frame.Size(n); got != want {
		t.Errorf("P10.1: Size(%d): %d, not %d", n, got, want)
	}
}

func TestSizeOfEachLength(t *testing.T) {
	wantSize(t, 0, 46)
	wantSize(t, 1, 47)
	wantSize(t, 4200, 4246)
	for n := range longest + 1 {
		wantSize(t, n, head+n)
	}
}

func TestSizeOfNoLength(t *testing.T) {
	for _, n := range []int{-1, -2, -45, -46, -47, -longest, -1 << 31, -1 << 32, math.MinInt + 1, math.MinInt} {
		wantSize(t, n, 0)
	}
	for n := longest + 1; n < 2*longest; n++ {
		wantSize(t, n, 0)
		wantSize(t, -n, 0)
	}
	for _, n := range []int{1<<16 + 1, 1<<31 - 1, 1 << 31, 1<<32 - 1, 1 << 32, 1<<32 + 1, 1 << 62, math.MaxInt - 46, math.MaxInt - 45, math.MaxInt - 1, math.MaxInt} {
		wantSize(t, n, 0)
	}
}

func TestSizeIsTheLengthOfAFrame(t *testing.T) {
	for n := range longest + 20 {
		b, e := frame.Put(keyOf(n), dataOf(n))
		if frame.Size(n) != len(b) || (e == api.OK) != (n <= longest) {
			t.Errorf("P10.1: %d bytes: Size is %d, Put returns %d bytes, error %d", n, frame.Size(n), len(b), e)
		}
	}
}
