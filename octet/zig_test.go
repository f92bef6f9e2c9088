package octet_test

import (
	"encoding/binary"
	"math"
	"math/big"
	"testing"

	"coffer/octet"
)

func TestZigExamples(t *testing.T) {
	if got := octet.Zig(-1); got != 1 {
		t.Errorf("P1.4: Zig(-1): %d", got)
	}
	if got := octet.Zag(3); got != -2 {
		t.Errorf("P1.4: Zag(3): %d", got)
	}
	for _, c := range []struct {
		v    uint64
		n    int
		want int64
	}{{255, 8, -1}, {127, 8, 127}, {5, 0, 0}} {
		if got := octet.Wrap(c.v, c.n); got != c.want {
			t.Errorf("P1.4: Wrap(%d, %d): %d", c.v, c.n, got)
		}
	}
}

func TestZigGoesToAndFro(t *testing.T) {
	for i := range int64(2000) {
		wantZig(t, i, uint64(2*i))
		wantZig(t, -i-1, uint64(2*i+1))
	}
}

func wantZig(t *testing.T, v int64, u uint64) {
	t.Helper()
	if got := octet.Zig(v); got != u {
		t.Errorf("P1.4: Zig(%d): %d, not %d", v, got, u)
	}
	if got := octet.Zag(u); got != v {
		t.Errorf("P1.4: Zag(%d): %d, not %d", u, got, v)
	}
}

func TestZigAtTheEnds(t *testing.T) {
	wantZig(t, math.MaxInt64, math.MaxUint64-1)
	wantZig(t, math.MinInt64, math.MaxUint64)
	wantZig(t, math.MaxInt64-1, math.MaxUint64-3)
	wantZig(t, math.MinInt64+1, math.MaxUint64-2)
	wantZig(t, math.MaxInt32, 1<<32-2)
	wantZig(t, math.MinInt32, 1<<32-1)
	wantZig(t, 1<<32, 1<<33)
	wantZig(t, -1<<62, 1<<63-1)
	wantZig(t, 1<<62, 1<<63)
}

func TestZigLikeTheLibrary(t *testing.T) {
	for _, u := range edgeNumbers() {
		v := int64(u)
		want, _ := binary.Uvarint(binary.AppendVarint(nil, v))
		wantZig(t, v, want)
		if got := octet.Zig(octet.Zag(u)); got != u {
			t.Errorf("P1.4: Zig(Zag(%d)): %d", u, got)
		}
	}
}

// wrapBySpec counts with numbers of any size: of n bits, the upper half stands for the negative numbers.
func wrapBySpec(v uint64, n int) int64 {
	whole := new(big.Int).Lsh(big.NewInt(1), uint(n))
	half := new(big.Int).Rsh(whole, 1)
	low := new(big.Int).Mod(new(big.Int).SetUint64(v), whole)
	if low.Cmp(half) >= 0 {
		low.Sub(low, whole)
	}
	return low.Int64()
}

func TestWrapOfEveryWidth(t *testing.T) {
	for _, v := range edgeNumbers() {
		for n := 1; n <= 64; n++ {
			if got, want := octet.Wrap(v, n), wrapBySpec(v, n); got != want {
				t.Errorf("P1.4: Wrap(%d, %d): %d, not %d", v, n, got, want)
			}
		}
	}
}

func TestWrapEdges(t *testing.T) {
	for _, c := range []struct {
		v    uint64
		n    int
		want int64
	}{
		{0, 1, 0}, {1, 1, -1}, {2, 1, 0}, {3, 1, -1},
		{128, 8, -128}, {256, 8, 0}, {1<<63 | 5, 8, 5}, {1<<63 | 5, 63, 5},
		{1 << 62, 63, -1 << 62}, {1 << 63, 64, math.MinInt64},
		{math.MaxInt64, 64, math.MaxInt64}, {math.MaxUint64, 64, -1},
		{math.MaxUint64, 32, -1}, {1 << 31, 32, math.MinInt32},
	} {
		if got := octet.Wrap(c.v, c.n); got != c.want {
			t.Errorf("P1.4: Wrap(%d, %d): %d, not %d", c.v, c.n, got, c.want)
		}
	}
}

func TestWrapOfNoWidth(t *testing.T) {
	for _, n := range []int{0, -1, -8, -64, 65, 66, 72, 128, 256, 1 << 32, 1<<32 + 8, math.MaxInt, math.MinInt, math.MinInt + 8} {
		for _, v := range []uint64{0, 1, 5, 255, 1 << 63, math.MaxUint64} {
			if got := octet.Wrap(v, n); got != 0 {
				t.Errorf("P1.4: Wrap(%d, %d): %d", v, n, got)
			}
		}
	}
}
