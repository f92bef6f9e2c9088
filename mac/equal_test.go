package mac_test

import (
	"bytes"
	"testing"
	"time"

	"coffer/mac"
)

func wantEqual(t *testing.T, a, b []byte, want bool) {
	t.Helper()
	if mac.Equal(a, b) != want || mac.Equal(b, a) != want {
		t.Errorf("P3.2: Equal of %d and %d bytes, either way round: not %t", len(a), len(b), want)
	}
}

func TestEqualOfNothing(t *testing.T) {
	for _, a := range [][]byte{nil, {}, dataOf(5)[:0]} {
		for _, b := range [][]byte{nil, {}, dataOf(5)[5:]} {
			wantEqual(t, a, b, true)
		}
		wantEqual(t, a, []byte{0}, false)
		wantEqual(t, a, []byte{1}, false)
	}
}

func TestEqualOfAlikeBytes(t *testing.T) {
	for _, n := range lengths() {
		a := dataOf(n)
		wantEqual(t, a, a, true)
		wantEqual(t, a, bytes.Clone(a), true)
		wantEqual(t, make([]byte, n), make([]byte, n), true)
		wantEqual(t, repeated(255, n), repeated(255, n), true)
	}
}

func TestEqualOfEveryTwoBytes(t *testing.T) {
	for i := range 256 {
		for j := range 256 {
			wantEqual(t, []byte{byte(i)}, []byte{byte(j)}, i == j)
			wantEqual(t, []byte{9, byte(i), 8}, []byte{9, byte(j), 8}, i == j)
		}
	}
}

func TestEqualOfEachPlace(t *testing.T) {
	for n := range 200 {
		a := dataOf(n)
		for i := range a {
			for bit := range 8 {
				b := bytes.Clone(a)
				b[i] ^= 1 << bit
				wantEqual(t, a, b, false)
			}
		}
	}
}

func TestEqualOfUnlikeEnds(t *testing.T) {
	for _, n := range []int{1000, 4096, 65537} {
		a := dataOf(n)
		for _, i := range []int{0, 1, 255, 256, n / 2, n - 2, n - 1} {
			b := bytes.Clone(a)
			b[i]++
			wantEqual(t, a, b, false)
		}
	}
}

func TestEqualOfUnlikeLengths(t *testing.T) {
	whole := dataOf(600)
	for n := range 600 {
		for _, m := range []int{0, 1, 32, 63, 64, 65, 255, 256, 257, 599, 600} {
			wantEqual(t, whole[:n], whole[:m], n == m)
			wantEqual(t, make([]byte, n), make([]byte, m), n == m)
		}
	}
	wantEqual(t, make([]byte, 7), make([]byte, 7+1<<16), false)
}

// Differences that cancel out or wrap round where bytes are gathered by other means than or.
func TestEqualOfSeveralDifferences(t *testing.T) {
	for _, c := range []struct{ a, b []byte }{
		{[]byte{1, 1}, []byte{0, 0}},
		{[]byte{1, 2}, []byte{2, 1}},
		{[]byte{1, 0}, []byte{0, 1}},
		{[]byte{128, 128}, []byte{0, 0}},
		{[]byte{255, 1}, []byte{0, 0}},
		{[]byte{15, 15, 15}, []byte{240, 240, 240}},
		{[]byte{170, 170}, []byte{85, 85}},
		{repeated(1, 256), repeated(0, 256)},
		{repeated(255, 256), repeated(0, 256)},
		{[]byte("abc"), []byte("cba")},
	} {
		wantEqual(t, c.a, c.b, false)
	}
}

func TestEqualStopsAtTheEndOfWhatIsGiven(t *testing.T) {
	a, b := []byte{1, 2, 3, 4}, []byte{1, 2, 3, 5}
	wantEqual(t, a[:3], b[:3], true)
	wantEqual(t, a[:0], b[3:3], true)
}

// leastTime is the shortest of several: what else the machine does only adds to one.
func leastTime(least time.Duration, a, b []byte) time.Duration {
	start := time.Now()
	mac.Equal(a, b)
	return min(least, time.Since(start))
}

// An Equal that ends at the first difference takes a hundred-thousandth of the time when that is in the first byte.
func TestEqualExaminesAllBytes(t *testing.T) {
	a := dataOf(1 << 20)
	first, last := bytes.Clone(a), bytes.Clone(a)
	first[0] ^= 1
	last[len(last)-1] ^= 1
	atFirst, atLast := time.Hour, time.Hour
	for range 30 {
		atFirst = leastTime(atFirst, a, first)
		atLast = leastTime(atLast, a, last)
	}
	if atFirst < atLast/16 || atLast < atFirst/16 {
		t.Errorf("P3.2: unlike in the first byte: %v, in the last: %v", atFirst, atLast)
	}
}
