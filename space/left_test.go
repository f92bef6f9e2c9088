package space_test

import (
	"math"
	"slices"
	"testing"

	"coffer/api"
)

func TestTaken(t *testing.T) {
	for _, homes := range []int{8, 9, 46, 67} {
		x := formatted(t, homes+24, 22)
		for _, i := range []int{-1, -4, math.MinInt, homes, homes + 1, 512, 4095, 4096, 1 << 32, 1<<32 + 1, math.MaxInt} {
			wantFailure(t, "no such sector", x, taken(i), api.ErrArg)
		}
		for i := range homes {
			on := 0
			if i < 4 {
				on = 1
			}
			want(t, "behind Format", x, taken(i), on, api.OK)
		}
		want(t, "the last ones", x, take(homes-4), 4, api.OK)
		want(t, "the last ones", x, free(4, homes-5), 0, api.OK)
		for i := 4; i < homes; i++ {
			on := 0
			if i == homes-1 {
				on = 1
			}
			want(t, "the last one", x, taken(i), on, api.OK)
		}
		wantFailure(t, "behind the last one", x, taken(homes), api.ErrArg)
	}
}

// The first four sectors are allocated, whatever their bits are.
func TestTheFirstOnes(t *testing.T) {
	for choice := range 16 {
		x := formatted(t, 64, 16)
		b := zeros()
		b[0] = byte(choice)
		write(t, x, 1, b)
		for i := range 4 {
			want(t, "the first ones", x, taken(i), 1, api.OK)
			wantFailure(t, "the first ones", x, free(i, 1), api.ErrArg)
			wantFailure(t, "the first ones", x, free(i, 5-i), api.ErrArg)
		}
		want(t, "the first ones", x, taken(4), 0, api.OK)
		want(t, "the first ones", x, left(), 42, api.OK)
		wantFailure(t, "the first ones", x, take(43), api.ErrFull)
		want(t, "the first ones", x, take(1), 4, api.OK)
		want(t, "the first ones", x, left(), 41, api.OK)
		want(t, "the first ones", x, take(41), 5, api.OK)
		want(t, "the first ones", x, left(), 0, api.OK)
		got, _ := x.Read(1)
		if got[0] != byte(choice)|0xf0 {
			t.Errorf("P8.1: the first byte of the bitmap is %d, not %d", got[0], choice|0xf0)
		}
	}
}

// Left through all of it, on the least journal, on one of a number of home sectors that is no multiple of 8, and on the greatest one.
func TestLeft(t *testing.T) {
	for _, c := range []struct{ size, ring, homes int }{
		{32, 22, 8}, {33, 22, 9}, {39, 22, 15}, {40, 22, 16}, {64, 16, 46}, {600, 8, 590}, {4096, 1024, 3070}, {4096, 9, 4085}, {4096, 8, 4086},
	} {
		x := formatted(t, c.size, c.ring)
		want(t, "behind Format", x, left(), c.homes-4, api.OK)
		at := 4
		for n := 1; at < c.homes; n = n%64 + 1 {
			n = min(n, c.homes-at)
			want(t, "through all of it", x, take(n), at, api.OK)
			at += n
			want(t, "through all of it", x, left(), c.homes-at, api.OK)
		}
		wantFailure(t, "all are allocated", x, take(1), api.ErrFull)
		want(t, "the last one", x, taken(c.homes-1), 1, api.OK)
		want(t, "the last one", x, free(c.homes-1, 1), 0, api.OK)
		want(t, "the last one", x, left(), 1, api.OK)
		want(t, "the last one", x, take(1), c.homes-1, api.OK)
		freed := 0
		for at := 4; at < c.homes; at += 64 {
			n := min(64, c.homes-at)
			want(t, "all the way back", x, free(at, n), 0, api.OK)
			freed += n
			want(t, "all the way back", x, left(), freed, api.OK)
		}
		wantFailure(t, "nothing is allocated", x, free(4, 1), api.ErrArg)
	}
}

// Each home sector alone is free.
func TestLeftOfEachBit(t *testing.T) {
	for i := range 46 {
		x := onlyFree(t, i)
		if i < 4 {
			want(t, "none of them", x, left(), 0, api.OK)
			continue
		}
		want(t, "one of them", x, left(), 1, api.OK)
		for k := range 46 {
			on := 1
			if k == i {
				on = 0
			}
			want(t, "one of them", x, taken(k), on, api.OK)
		}
	}
}

// Asking writes nothing, and answers the same again.
func TestAskingChangesNothing(t *testing.T) {
	_, j := spaced(t)
	x := begin(t, j)
	before := sightOf(t, x)
	for range 3 {
		for _, c := range slices.Concat(asking()[0], asking()[1]) {
			if _, e := c.do(x); e != api.OK {
				t.Errorf("%s: error %d", c.name, e)
			}
		}
		want(t, "again", x, left(), 129, api.OK)
		want(t, "again", x, root(3), 33, api.OK)
	}
	wantSight(t, "asking", x, before)
}
