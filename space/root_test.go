package space_test

import (
	"encoding/binary"
	"math"
	"slices"
	"testing"

	"coffer/api"
)

// values are roots that tell their bytes apart.
func values() []uint32 {
	return []uint32{0, 1, 255, 256, 258, 1 << 16, 1 << 24, 0x01020304, 1<<31 - 1, 1 << 31, 1<<32 - 2, 1<<32 - 1}
}

func TestRootsBehindFormat(t *testing.T) {
	x := formatted(t, 64, 16)
	for k := range 16 {
		want(t, "behind Format", x, root(k), 0, api.OK)
	}
}

func TestNoSuchRoot(t *testing.T) {
	x := formatted(t, 64, 16)
	for k := range 16 {
		want(t, "before", x, setRoot(k, uint32(k)+1), 0, api.OK)
	}
	for _, k := range []int{-1, -4, -16, math.MinInt, 16, 17, 127, 128, 4096, 1 << 32, 1 << 62, 1<<62 + 1, math.MaxInt} {
		wantFailure(t, "no such root", x, root(k), api.ErrArg)
		for _, v := range values() {
			wantFailure(t, "no such root", x, setRoot(k, v), api.ErrArg)
		}
	}
}

// Each root is four bytes in big-endian order, in a sector that has other bytes too.
func TestRoot(t *testing.T) {
	x := formatted(t, 64, 16)
	for seed := range 20 {
		b := sectorOf(seed)
		write(t, x, 0, b)
		for k := range 16 {
			want(t, "any bytes", x, root(k), int(binary.BigEndian.Uint32(b[4*k:])), api.OK)
		}
	}
}

// No other root, no other byte and no bit turns, and one sector is written.
func TestSetRoot(t *testing.T) {
	_, j := opened(t, 64, 16)
	base := begin(t, j)
	for i := range 10 {
		write(t, base, i, sectorOf(i))
	}
	commit(t, base)
	for k := range 16 {
		x := begin(t, j)
		behind := sightOf(t, x)
		behind.touched = 1
		for _, v := range values() {
			want(t, "SetRoot", x, setRoot(k, v), 0, api.OK)
			b := slices.Clone(behind.sectors[0])
			binary.BigEndian.PutUint32(b[4*k:], v)
			behind.sectors[0] = b
			want(t, "SetRoot", x, root(k), int(v), api.OK)
			wantSight(t, "P8.2: SetRoot", x, behind)
		}
	}
}

// The value that a root has already is written too.
func TestSetRootOfTheSame(t *testing.T) {
	_, j := spaced(t)
	x := begin(t, j)
	behind := sightOf(t, x)
	behind.touched = 1
	want(t, "the same", x, setRoot(3, 33), 0, api.OK)
	wantSight(t, "P8.2: SetRoot of the same", x, behind)
}

// All of them, in several orders, with the greatest value beside zeros.
func TestAllRoots(t *testing.T) {
	x := formatted(t, 64, 16)
	next := numbers(16)
	roots := make([]uint32, 16)
	for range 600 {
		k, v := int(next()%16), values()[next()%uint64(len(values()))]
		roots[k] = v
		want(t, "all roots", x, setRoot(k, v), 0, api.OK)
		for i, v := range roots {
			want(t, "all roots", x, root(i), int(v), api.OK)
		}
	}
	want(t, "all roots", x, left(), 42, api.OK)
}
