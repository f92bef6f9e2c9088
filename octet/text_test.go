package octet_test

import (
	"bytes"
	"encoding/binary"
	"math"
	"testing"

	"coffer/api"
	"coffer/octet"
)

const longest = 65536

// textOf is n bytes that differ from their neighbours.
func textOf(n int) []byte {
	s := make([]byte, n)
	for i := range s {
		s[i] = byte(i*7 + i>>8)
	}
	return s
}

func wantTakeText(t *testing.T, b, s []byte, n int, e api.Errno) {
	t.Helper()
	gotS, gotN, gotE := octet.TakeText(b)
	if !bytes.Equal(gotS, s) || gotN != n || gotE != e {
		t.Errorf("P1.3: TakeText of %d bytes: %d bytes, %d %d; not %d bytes, %d %d", len(b), len(gotS), gotN, gotE, len(s), n, e)
	}
}

func TestTextOfEachLength(t *testing.T) {
	for _, head := range [][]byte{nil, {}, {1}, {200, 0, 3}} {
		for _, n := range []int{0, 1, 2, 127, 128, 129, 255, 256, 16383, 16384, 65535, longest} {
			s := textOf(n)
			want := append(binary.AppendUvarint(bytes.Clone(head), uint64(n)), s...)
			got, e := octet.Text(head, s)
			if e != api.OK || !bytes.Equal(got, want) {
				t.Errorf("P1.3: Text(%v, %d bytes): %d bytes, %d", head, n, len(got), e)
				continue
			}
			b := got[len(head):]
			wantTakeText(t, b, s, len(b), api.OK)
			wantTakeText(t, append(bytes.Clone(b), 9, 0, 128), s, len(b), api.OK)
			wantTakeText(t, b[:len(b)-1], nil, 0, api.ErrShort)
		}
	}
}

func TestTextOfNoBytes(t *testing.T) {
	for _, s := range [][]byte{nil, {}} {
		for _, b := range [][]byte{nil, {}} {
			if got, e := octet.Text(b, s); e != api.OK || !bytes.Equal(got, []byte{0}) {
				t.Errorf("P1.3: Text of nothing: %v %d", got, e)
			}
		}
	}
	wantTakeText(t, []byte{0}, nil, 1, api.OK)
	wantTakeText(t, []byte{0, 5}, nil, 1, api.OK)
}

func TestTextTooLong(t *testing.T) {
	for _, head := range [][]byte{nil, {1, 2}} {
		for _, n := range []int{longest + 1, longest + 2, 1 << 17, 1 << 20} {
			if got, e := octet.Text(head, make([]byte, n)); e != api.ErrLong || len(got) != 0 {
				t.Errorf("P1.3: Text(%v, %d bytes): %d bytes, %d", head, n, len(got), e)
			}
		}
	}
}

func TestTextBehindManyBytes(t *testing.T) {
	head := textOf(longest + 5)
	got, e := octet.Text(head, []byte("ab"))
	if e != api.OK || !bytes.Equal(got, append(bytes.Clone(head), 2, 'a', 'b')) {
		t.Errorf("P1.3: only s is bounded: %d bytes, %d", len(got), e)
	}
}

func TestTextOfItsOwnHead(t *testing.T) {
	b := []byte{1, 2, 3}
	if got, e := octet.Text(b, b); e != api.OK || !bytes.Equal(got, []byte{1, 2, 3, 3, 1, 2, 3}) {
		t.Errorf("P1.3: Text(b, b): %v %d", got, e)
	}
}

func TestTakeTextErrorsOfItsLength(t *testing.T) {
	tail := make([]byte, 300)
	wantTakeText(t, nil, nil, 0, api.ErrShort)
	wantTakeText(t, []byte{}, nil, 0, api.ErrShort)
	wantTakeText(t, []byte{128}, nil, 0, api.ErrShort)
	wantTakeText(t, []byte{128, 0}, nil, 0, api.ErrSyntax)
	wantTakeText(t, append([]byte{130, 0}, tail...), nil, 0, api.ErrSyntax)
	wantTakeText(t, append([]byte{130, 128, 0}, tail...), nil, 0, api.ErrSyntax)
	// Bits for more than MaxText are there, and yet the length's own errors come first.
	wantTakeText(t, []byte{255, 255, 255, 255}, nil, 0, api.ErrShort)
	wantTakeText(t, []byte{255, 255, 255, 255, 0}, nil, 0, api.ErrSyntax)
	wantTakeText(t, append(bytes.Repeat([]byte{255}, 9), 2), nil, 0, api.ErrSyntax)
	wantTakeText(t, append(bytes.Repeat([]byte{255}, 9), 129), nil, 0, api.ErrSyntax)
}

func TestTakeTextTooLong(t *testing.T) {
	tooLong := []uint64{longest + 1, longest + 2, 1 << 17, 1 << 31, 1<<31 + 2, 1 << 32, 1<<32 + 2, 1 << 62, 1<<63 - 1, 1 << 63, 1<<63 + 2, math.MaxUint64 - 1, math.MaxUint64}
	for _, n := range tooLong {
		b := binary.AppendUvarint(nil, n)
		wantTakeText(t, b, nil, 0, api.ErrLong)
		wantTakeText(t, append(b, 1, 2, 3), nil, 0, api.ErrLong)
	}
	for _, n := range []int{longest + 1, longest + 2} {
		b := append(binary.AppendUvarint(nil, uint64(n)), make([]byte, n+3)...)
		wantTakeText(t, b, nil, 0, api.ErrLong)
	}
}

func TestTakeTextShort(t *testing.T) {
	for _, n := range []int{1, 2, 127, 128, 16384, 65535, longest} {
		b := append(binary.AppendUvarint(nil, uint64(n)), textOf(n)...)
		head := len(b) - n
		for _, has := range []int{0, 1, n / 2, n - 1} {
			if has < n {
				wantTakeText(t, b[:head+has], nil, 0, api.ErrShort)
			}
		}
	}
}

func TestTakeTextStopsAtTheEndOfWhatIsGiven(t *testing.T) {
	b := []byte{3, 'a', 'b', 'c', 'd'}
	wantTakeText(t, b[:3], nil, 0, api.ErrShort)
	wantTakeText(t, b[:0], nil, 0, api.ErrShort)
}
