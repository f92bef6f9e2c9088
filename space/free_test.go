package space_test

import (
	"math"
	"slices"
	"testing"

	"coffer/api"
)

// wantFreed holds Free of sectors that may be released against each of the sectors.
func wantFreed(t *testing.T, where string, start, n int) {
	t.Helper()
	x := onlyFree(t)
	want(t, where, x, free(start, n), 0, api.OK)
	for i := range 46 {
		on := 1
		if i >= start && i < start+n {
			on = 0
		}
		want(t, where+", released", x, taken(i), on, api.OK)
	}
	want(t, where+", released", x, left(), n, api.OK)
	wantFailure(t, where+", once more", x, free(start, n), api.ErrArg)
	want(t, where+", taken again", x, take(n), start, api.OK)
}

func TestFree(t *testing.T) {
	for start := 4; start < 46; start++ {
		for n := 1; start+n <= 46; n++ {
			wantFreed(t, "Free", start, n)
		}
	}
}

// Free need not be of what one Take has allocated.
func TestFreeOfParts(t *testing.T) {
	x := formatted(t, 64, 16)
	want(t, "parts", x, take(10), 4, api.OK)
	want(t, "parts", x, take(10), 14, api.OK)
	want(t, "parts", x, free(12, 5), 0, api.OK)
	wantFailure(t, "parts", x, free(11, 2), api.ErrArg)
	wantFailure(t, "parts", x, free(16, 2), api.ErrArg)
	want(t, "parts", x, free(11, 1), 0, api.OK)
	want(t, "parts", x, take(6), 11, api.OK)
	want(t, "parts", x, free(4, 20), 0, api.OK)
	want(t, "parts", x, left(), 42, api.OK)
}

func TestFreeOfWrongNumbers(t *testing.T) {
	x := formatted(t, 300, 16)
	for range 4 {
		if _, e := take(64).do(x); e != api.OK {
			t.Fatalf("P8.1: Take: error %d", e)
		}
	}
	for _, start := range []int{4, 20, 259} {
		for _, n := range []int{0, -1, -64, 65, 66, 128, 1 << 32, math.MaxInt, math.MinInt} {
			wantFailure(t, "a wrong number", x, free(start, n), api.ErrArg)
		}
	}
	for _, n := range []int{0, 1, 2, 63, 64, 65} {
		wantFailure(t, "a start of 3", x, free(3, n), api.ErrArg)
	}
	want(t, "behind wrong numbers", x, free(196, 64), 0, api.OK)
	want(t, "behind wrong numbers", x, free(4, 64), 0, api.OK)
	want(t, "behind wrong numbers", x, free(195, 1), 0, api.OK)
	want(t, "behind wrong numbers", x, left(), 278-127, api.OK)
}

// Nothing is free, whatever the bits of the sectors that do not exist are: from a start that is too small, or too great, even if their sum is more than an int holds.
func TestFreeOfNoSuchSectors(t *testing.T) {
	for _, fill := range []byte{0, 255} {
		x := onlyFree(t)
		b, _ := x.Read(1)
		for i := 46; i < 4096; i++ {
			b[i/8] = b[i/8]&^bitOf(i) | fill&bitOf(i)
		}
		write(t, x, 1, b)
		for _, c := range []struct{ start, n int }{
			{3, 1}, {3, 2}, {3, 43}, {0, 1}, {0, 4}, {0, 46}, {2, 64}, {-1, 1}, {-1, 6}, {-60, 64}, {math.MinInt, 1}, {math.MinInt, 64},
			{46, 1}, {45, 2}, {44, 3}, {4, 43}, {4, 64}, {46, 64}, {47, 1}, {4095, 1}, {4096, 1}, {4032, 64}, {1 << 32, 1}, {1<<32 + 4, 4}, {1 << 62, 64},
			{math.MaxInt, 1}, {math.MaxInt, 2}, {math.MaxInt - 1, 1}, {math.MaxInt - 1, 2}, {math.MaxInt - 1, 3}, {math.MaxInt - 63, 64}, {math.MaxInt - 62, 64}, {math.MaxInt, 64},
			{math.MaxInt - 3, math.MaxInt}, {math.MaxInt, math.MaxInt}, {math.MinInt, math.MinInt}, {1 << 62, 1 << 62},
		} {
			wantFailure(t, "no such sectors", x, free(c.start, c.n), api.ErrArg)
		}
		want(t, "behind wrong numbers", x, free(4, 42), 0, api.OK)
	}
}

// The first one, one in the midst, or the last one is not allocated.
func TestFreeOfWhatIsFree(t *testing.T) {
	for _, n := range []int{1, 2, 3, 8, 9, 17, 40} {
		for start := 4; start+n <= 46; start++ {
			for _, k := range slices.Compact([]int{0, n / 2, n - 1}) {
				x := onlyFree(t, start+k)
				wantFailure(t, "one is not allocated", x, free(start, n), api.ErrArg)
				want(t, "one is not allocated", x, left(), 1, api.OK)
			}
		}
	}
	wantFailure(t, "none is allocated", formatted(t, 64, 16), free(4, 1), api.ErrArg)
	wantFailure(t, "none is allocated", formatted(t, 64, 16), free(4, 42), api.ErrArg)
}

// Those beside it may be free.
func TestFreeBesideWhatIsFree(t *testing.T) {
	x := onlyFree(t, 9, 20)
	want(t, "between two free ones", x, free(10, 10), 0, api.OK)
	want(t, "between two free ones", x, left(), 12, api.OK)
	want(t, "between two free ones", x, take(12), 9, api.OK)
}
