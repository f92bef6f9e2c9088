package space_test

import (
	"math"
	"slices"
	"testing"

	"coffer/api"
)

// The chapter's examples.
func TestExample(t *testing.T) {
	x := formatted(t, 64, 16)
	want(t, "the example", x, take(2), 4, api.OK)
	want(t, "the example", x, take(1), 6, api.OK)
	want(t, "the example", x, free(4, 2), 0, api.OK)
	want(t, "the example", x, take(3), 7, api.OK)
	want(t, "the example", x, take(2), 4, api.OK)
}

// wantTurned holds a call on sectors that held something against the bits that it must turn, and all else that must stay.
func wantTurned(t *testing.T, where string, before sight, c call, v int, turned []int) {
	t.Helper()
	_, j := opened(t, 64, 16)
	x := begin(t, j)
	for i, b := range before.sectors {
		write(t, x, i, b)
	}
	want(t, where, x, c, v, api.OK)
	behind := sight{sectors: slices.Clone(before.sectors), touched: len(before.sectors)}
	b := slices.Clone(before.sectors[1])
	for _, i := range turned {
		b[i/8] ^= bitOf(i)
	}
	behind.sectors[1] = b
	for len(behind.sectors) < 46 {
		behind.sectors = append(behind.sectors, zeros())
	}
	wantSight(t, where+": "+c.name, x, behind)
}

// noise is a space of 46 home sectors, of which just these are free, in four sectors that are full of other bits.
func noise(free []int) sight {
	s := sight{sectors: [][]byte{sectorOf(1), sectorOf(2), sectorOf(3), sectorOf(4)}}
	for i := 4; i < 46; i++ {
		s.sectors[1][i/8] |= bitOf(i)
		if slices.Contains(free, i) {
			s.sectors[1][i/8] &^= bitOf(i)
		}
	}
	return s
}

// Take and Free turn the bits of their sectors, and nothing else of four sectors that are full of other bits.
func TestBits(t *testing.T) {
	for n := 1; n <= 42; n++ {
		for _, start := range []int{4, 5, 7, 8, 9, 15, 16, 23, 45} {
			if start+n > 46 {
				continue
			}
			l := span(start, start+n-1)
			wantTurned(t, "bits", noise(l), take(n), start, l)
			wantTurned(t, "bits", noise(nil), free(start, n), 0, l)
		}
	}
}

func TestTakeOfWrongNumbers(t *testing.T) {
	x := formatted(t, 300, 16)
	for _, n := range []int{0, -1, 65, 66, 128, 1 << 31, math.MaxInt, math.MinInt} {
		wantFailure(t, "a wrong number", x, take(n), api.ErrArg)
	}
	want(t, "behind wrong numbers", x, take(1), 4, api.OK)
	want(t, "behind wrong numbers", x, take(64), 5, api.OK)
	want(t, "behind wrong numbers", x, take(63), 69, api.OK)
	full := onlyFree(t)
	for _, n := range []int{0, -1, 65} {
		wantFailure(t, "a wrong number, and nothing is free", full, take(n), api.ErrArg)
	}
}

// Where the gaps are of which Take takes the first one that is great enough, from its beginning.
func TestGaps(t *testing.T) {
	for _, c := range []struct {
		name string
		free []int
		n    int
		at   int // 0: ErrFull
	}{
		{"one sector is free", span(9, 9), 1, 9},
		{"one sector is free", span(9, 9), 2, 0},
		{"the first gap is one too small", slices.Concat(span(10, 12), span(20, 25)), 4, 20},
		{"the first gap is one too small, by a byte's border", slices.Concat(span(5, 7), span(9, 12)), 4, 9},
		{"the first gap is just right", slices.Concat(span(10, 12), span(20, 25)), 3, 10},
		{"just the one in the midst fits", slices.Concat(span(4, 6), span(10, 13), span(20, 22)), 4, 10},
		{"just the last one fits", slices.Concat(span(4, 6), span(10, 12), span(20, 23)), 4, 20},
		{"over borders of bytes", slices.Concat(span(6, 8), span(14, 33)), 20, 14},
		{"a gap up to the last home sector", slices.Concat(span(10, 12), span(42, 45)), 4, 42},
		{"a gap up to the last home sector is one too small", slices.Concat(span(10, 12), span(42, 45)), 5, 0},
		{"the last home sector", span(45, 45), 1, 45},
		{"the last home sector, and two are wanted", span(45, 45), 2, 0},
		{"the greatest gap is one too small", slices.Concat(span(10, 12), span(20, 21)), 4, 0},
		{"gaps that are enough together", slices.Concat(span(10, 12), span(14, 16), span(18, 20)), 4, 0},
		{"every second one", []int{4, 6, 8, 10, 12, 14, 16, 18, 20}, 2, 0},
		{"nothing is free", nil, 1, 0},
		{"nothing is free", nil, 64, 0},
		{"all are free", span(4, 45), 42, 4},
		{"all are free, and one more is wanted", span(4, 45), 43, 0},
		{"all are free, the first ones too", span(0, 45), 42, 4},
		{"all are free, the first ones too, and more are wanted", span(0, 45), 43, 0},
		{"just the first ones", span(0, 3), 1, 0},
		{"the first ones, and one behind them", span(0, 4), 2, 0},
		{"the first ones, and one behind them", span(0, 4), 1, 4},
		{"the third one, and those behind it", span(3, 6), 4, 0},
		{"the third one, and those behind it", span(3, 6), 3, 4},
	} {
		x := onlyFree(t, c.free...)
		if c.at == 0 {
			wantFailure(t, c.name, x, take(c.n), api.ErrFull)
			continue
		}
		want(t, c.name, x, take(c.n), c.at, api.OK)
		for i := range 46 {
			on := 1
			if i > 3 && slices.Contains(c.free, i) && (i < c.at || i >= c.at+c.n) {
				on = 0
			}
			want(t, c.name+", taken", x, taken(i), on, api.OK)
		}
	}
}

// As many as one Take may allocate, and one less and one more than a gap has.
func TestTakeOfTheMost(t *testing.T) {
	for _, gap := range []int{62, 63, 64, 65} {
		x := formatted(t, gap+22, 16)
		if gap < 64 {
			wantFailure(t, "a gap that is too small", x, take(64), api.ErrFull)
			want(t, "a gap that is too small", x, take(gap), 4, api.OK)
		} else {
			want(t, "64 at once", x, take(64), 4, api.OK)
		}
		left := max(0, gap-64)
		wantFailure(t, "what is left", x, take(left+1), api.ErrFull)
		if left > 0 {
			want(t, "what is left", x, take(left), 68, api.OK)
		}
	}
}

// The sectors that do not exist are not free, whatever their bits are, and these stay.
func TestTakeAtTheEnd(t *testing.T) {
	for _, homes := range []int{8, 9, 15, 16, 17, 46} {
		for _, fill := range []byte{0, 255} {
			x := formatted(t, homes+24, 22)
			b := slices.Repeat([]byte{fill}, 512)
			b[0] = 15
			clear(b[1 : homes/8])
			for i := 8; i < homes; i++ {
				b[i/8] &^= bitOf(i)
			}
			write(t, x, 1, b)
			want(t, "the end", x, left(), homes-4, api.OK)
			wantFailure(t, "one more than there are", x, take(homes-3), api.ErrFull)
			want(t, "all but one", x, take(homes-5), 4, api.OK)
			wantFailure(t, "two, where one is left", x, take(2), api.ErrFull)
			want(t, "the last one", x, take(1), homes-1, api.OK)
			wantFailure(t, "one more", x, take(1), api.ErrFull)
			wantFailure(t, "beyond the end", x, taken(homes), api.ErrArg)
			wantFailure(t, "beyond the end", x, free(homes, 1), api.ErrArg)
			wantFailure(t, "over the end", x, free(homes-1, 2), api.ErrArg)
			got, _ := x.Read(1)
			for i := homes; i < 4096; i++ {
				if got[i/8]&bitOf(i) != fill&bitOf(i) {
					t.Errorf("%d home sectors: P8.1: the bit of home sector %d turns", homes, i)
				}
			}
		}
	}
}

// Two allocated extents never overlap: long rows of calls, of which each sector has one owner.
func TestNoOverlap(t *testing.T) {
	next := numbers(8)
	x := formatted(t, 300, 16)
	owner := map[int]int{}
	starts := map[int]int{}
	for range 4000 {
		n := 1 + int(next()%20)
		if start, e := take(n).do(x); e == api.OK && next()%3 > 0 {
			for i := start; i < start+n; i++ {
				if _, again := owner[i]; again || i < 4 || i > 281 {
					t.Fatalf("What follows: home sector %d of an extent of %d from %d is another one's", i, n, start)
				}
				owner[i] = start
			}
			starts[start] = n
			continue
		} else if e == api.OK {
			want(t, "given back", x, free(start, n), 0, api.OK)
		}
		for start := 4; start < 282; start++ {
			if n := starts[start]; n > 0 && next()%3 == 0 {
				want(t, "an extent", x, free(start, n), 0, api.OK)
				delete(starts, start)
				for i := start; i < start+n; i++ {
					delete(owner, i)
				}
			}
		}
		want(t, "what is left", x, left(), 278-len(owner), api.OK)
	}
}
