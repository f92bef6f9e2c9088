package octet_test

import (
	"bytes"
	"encoding/binary"
	"math"
	"testing"

	"coffer/api"
	"coffer/octet"
)

func TestCountExamples(t *testing.T) {
	if got := octet.Count(nil, 300); !bytes.Equal(got, []byte{172, 2}) {
		t.Errorf("P1.2: Count(nil, 300): %v", got)
	}
	wantTake(t, []byte{172, 2, 7}, 300, 2, api.OK)
	wantTake(t, []byte{128, 0}, 0, 0, api.ErrSyntax)
	wantTake(t, []byte{128}, 0, 0, api.ErrShort)
}

func wantTake(t *testing.T, b []byte, v uint64, n int, e api.Errno) {
	t.Helper()
	gotV, gotN, gotE := octet.TakeCount(b)
	if gotV != v || gotN != n || gotE != e {
		t.Errorf("P1.2: TakeCount(%v): %d %d %d, not %d %d %d", b, gotV, gotN, gotE, v, n, e)
	}
}

func TestCountLikeTheLibrary(t *testing.T) {
	for _, head := range [][]byte{nil, {}, {7}, {128, 128, 128}, {0}} {
		for _, v := range edgeNumbers() {
			want := binary.AppendUvarint(bytes.Clone(head), v)
			if got := octet.Count(head, v); !bytes.Equal(got, want) {
				t.Errorf("P1.2: Count(%v, %d): %v, not %v", head, v, got, want)
			}
		}
	}
}

func TestCountFewestGroups(t *testing.T) {
	if got := octet.Count(nil, 0); !bytes.Equal(got, []byte{0}) {
		t.Errorf("P1.2: Count(nil, 0): %v", got)
	}
	for groups := 1; groups <= 9; groups++ {
		least := uint64(1) << (7 * groups)
		if got := octet.Count(nil, least-1); len(got) != groups {
			t.Errorf("P1.2: Count(nil, %d): %v", least-1, got)
		}
		if got := octet.Count(nil, least); len(got) != groups+1 {
			t.Errorf("P1.2: Count(nil, %d): %v", least, got)
		}
	}
	nines := append(bytes.Repeat([]byte{255}, 9), 1)
	if got := octet.Count(nil, math.MaxUint64); !bytes.Equal(got, nines) {
		t.Errorf("P1.2: Count(nil, MaxUint64): %v", got)
	}
}

func TestTakeCountReadsWhatCountWrote(t *testing.T) {
	for _, v := range edgeNumbers() {
		b := octet.Count(nil, v)
		for _, tail := range [][]byte{nil, {0}, {1}, {127}, {128}, {255, 255}, bytes.Repeat([]byte{128}, 12)} {
			wantTake(t, append(bytes.Clone(b), tail...), v, len(b), api.OK)
		}
		for cut := range len(b) {
			wantTake(t, b[:cut], 0, 0, api.ErrShort)
		}
	}
}

func TestTakeCountShort(t *testing.T) {
	wantTake(t, nil, 0, 0, api.ErrShort)
	wantTake(t, []byte{}, 0, 0, api.ErrShort)
	for n := 1; n <= 9; n++ {
		for _, c := range []byte{128, 129, 254, 255} {
			wantTake(t, bytes.Repeat([]byte{c}, n), 0, 0, api.ErrShort)
		}
	}
}

func TestTakeCountTenthByte(t *testing.T) {
	for _, low := range []byte{128, 129, 255} {
		nine := bytes.Repeat([]byte{low}, 9)
		for c := range 256 {
			for _, tail := range [][]byte{nil, {0}, {1}, {128, 1}} {
				b := append(append(bytes.Clone(nine), byte(c)), tail...)
				if c != 1 {
					wantTake(t, b, 0, 0, api.ErrSyntax)
					continue
				}
				want, _ := binary.Uvarint(b[:10])
				wantTake(t, b, want, 10, api.OK)
			}
		}
	}
}

func TestTakeCountLastGroupOfZero(t *testing.T) {
	for before := 1; before <= 9; before++ {
		for _, c := range []byte{128, 129, 255} {
			b := append(bytes.Repeat([]byte{c}, before), 0)
			wantTake(t, b, 0, 0, api.ErrSyntax)
			wantTake(t, append(b, 1), 0, 0, api.ErrSyntax)
			wantTake(t, append(b, 255, 255), 0, 0, api.ErrSyntax)
		}
	}
	wantTake(t, []byte{0}, 0, 1, api.OK)
	wantTake(t, []byte{0, 0}, 0, 1, api.OK)
	wantTake(t, []byte{0, 128}, 0, 1, api.OK)
}

func TestTakeCountZeroGroupInside(t *testing.T) {
	wantTake(t, []byte{128, 1}, 128, 2, api.OK)
	wantTake(t, []byte{128, 128, 1}, 1<<14, 3, api.OK)
	wantTake(t, []byte{129, 128, 1}, 1<<14+1, 3, api.OK)
	wantTake(t, []byte{128, 128, 128, 128, 128, 128, 128, 128, 128, 1}, 1<<63, 10, api.OK)
}

// takeBySpec reads a varint group by group as the chapter words it, and its number by the library.
func takeBySpec(b []byte) (uint64, int, api.Errno) {
	for n := 1; n <= len(b); n++ {
		last := b[n-1]
		if n == 10 && last > 1 {
			return 0, 0, api.ErrSyntax
		}
		if last >= 128 {
			continue
		}
		if last == 0 && n > 1 {
			return 0, 0, api.ErrSyntax
		}
		v, _ := binary.Uvarint(b[:n])
		return v, n, api.OK
	}
	return 0, 0, api.ErrShort
}

func TestTakeCountOfAllShortInputs(t *testing.T) {
	for a := range 256 {
		b := []byte{byte(a)}
		v, n, e := takeBySpec(b)
		wantTake(t, b, v, n, e)
		for c := range 256 {
			b := []byte{byte(a), byte(c)}
			v, n, e := takeBySpec(b)
			wantTake(t, b, v, n, e)
		}
	}
}

func TestTakeCountOfManyInputs(t *testing.T) {
	some := []byte{0, 1, 2, 127, 128, 129, 255}
	next := numbers(2)
	for range 20000 {
		b := make([]byte, next()%13)
		for i := range b {
			b[i] = some[3+next()%4]
			if next()%6 == 0 {
				b[i] = some[next()%7]
			}
		}
		v, n, e := takeBySpec(b)
		wantTake(t, b, v, n, e)
	}
}

func TestNoVarintBeginsAnother(t *testing.T) {
	all := edgeNumbers()
	for i, v := range all {
		for _, w := range all[:i] {
			a, b := octet.Count(nil, v), octet.Count(nil, w)
			if v != w && (bytes.HasPrefix(a, b) || bytes.HasPrefix(b, a)) {
				t.Fatalf("P1.2: %d and %d: %v %v", v, w, a, b)
			}
		}
	}
}
