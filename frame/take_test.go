package frame_test

import (
	"bytes"
	"testing"

	"coffer/api"
	"coffer/frame"
)

func TestTakeOfWhatWasPut(t *testing.T) {
	for n := range longest + 1 {
		b, e := frame.Put(keyOf(n), dataOf(n))
		if e != api.OK {
			t.Fatalf("P10.1: Put of %d bytes: error %d", n, e)
		}
		wantTake(t, b, keyOf(n), dataOf(n))
	}
}

func TestTakeOfEachLength(t *testing.T) {
	for n := range longest + 1 {
		wantTake(t, plainFrame(keyOf(n), dataOf(n)), keyOf(n), dataOf(n))
	}
}

// The length is that of the frame, not of what was given.
func TestTakeWithOtherBytesBehind(t *testing.T) {
	for _, n := range lengths() {
		b := plainFrame(keyOf(n), dataOf(n))
		for _, others := range [][]byte{{0}, {255}, {199}, {199, 70}, {9, 9}, b, make([]byte, 46), dataOf(longest), dataOf(1 << 16)} {
			wantTake(t, behind(b, others...), keyOf(n), dataOf(n))
		}
	}
}

// A row of frames is read from one to the next.
func TestTakeOneByOne(t *testing.T) {
	var row []byte
	for _, n := range lengths() {
		row = append(row, plainFrame(keyOf(n), dataOf(n))...)
	}
	at := 0
	for _, n := range lengths() {
		wantTake(t, row[at:], keyOf(n), dataOf(n))
		_, _, size, _ := frame.Take(row[at:])
		at += size
	}
	if at != len(row) {
		t.Errorf("P10.2: the frames end at %d, not at %d", at, len(row))
	}
	wantNone(t, "behind the last frame", row[at:], api.ErrShort)
}

func TestTakeOfFewBytes(t *testing.T) {
	b := plainFrame(keyOf(1), nil)
	wantNone(t, "nil", nil, api.ErrShort)
	wantNone(t, "none", []byte{}, api.ErrShort)
	for n := range 46 {
		wantNone(t, "of a frame", b[:n], api.ErrShort)
		wantNone(t, "of a longer frame", plainFrame(keyOf(1), dataOf(longest))[:n], api.ErrShort)
		wantNone(t, "zeros", make([]byte, n), api.ErrShort)
		wantNone(t, "no frame", bytes.Repeat([]byte{255}, n), api.ErrShort)
	}
	wantTake(t, b[:46], keyOf(1), nil)
	wantNone(t, "zeros", make([]byte, 46), api.ErrSyntax)
}

// What stands behind the end of what is given does not count.
func TestTakeOfCutFrames(t *testing.T) {
	for _, n := range []int{0, 1, 2, 64, 255, 256, longest} {
		b := plainFrame(keyOf(n), dataOf(n))
		for end := range b {
			wantNone(t, "cut off", b[:end], api.ErrShort)
			wantNone(t, "cut off, with no room", bytes.Clone(b[:end]), api.ErrShort)
		}
		wantTake(t, b, keyOf(n), dataOf(n))
	}
}

// A frame that is cut off has not become another one by that.
func TestTakeOfCutFramesOneByOne(t *testing.T) {
	first, second := plainFrame(keyOf(1), dataOf(20)), plainFrame(keyOf(2), dataOf(30))
	row := append(bytes.Clone(first), second...)
	for end := range row {
		if end < len(first) {
			wantNone(t, "first cut off", row[:end], api.ErrShort)
		} else {
			wantTake(t, row[:end], keyOf(1), dataOf(20))
			wantNone(t, "second cut off", row[len(first):end], api.ErrShort)
		}
	}
}

func TestTakeOfOtherFirstBytes(t *testing.T) {
	for _, n := range []int{0, 1, 300} {
		b := plainFrame(keyOf(n), dataOf(n))
		for c := range 256 {
			if c != 199 {
				wantNone(t, "another first byte", with(b, 0, byte(c)), api.ErrSyntax)
				wantNone(t, "two other bytes", with(b, 0, byte(c), byte(c)), api.ErrSyntax)
			}
			if c != 70 {
				wantNone(t, "another second byte", with(b, 1, byte(c)), api.ErrSyntax)
			}
		}
		wantNone(t, "the two swapped", with(b, 0, 70, 199), api.ErrSyntax)
		wantNone(t, "a byte ahead of it", append([]byte{0}, b...), api.ErrSyntax)
		wantNone(t, "without its first byte", behind(b[1:], 0), api.ErrSyntax)
	}
}

// tooLong has lengths above 4,200 as four bytes, among them those that are small if a byte of them is left out.
func tooLong() [][]byte {
	return [][]byte{{0, 0, 16, 105}, {0, 0, 17, 0}, {0, 0, 255, 255}, {0, 1, 0, 0}, {0, 1, 0, 1}, {0, 255, 0, 0}, {1, 0, 0, 0}, {1, 0, 0, 1}, {127, 255, 255, 255}, {128, 0, 0, 0}, {128, 0, 0, 1}, {255, 255, 255, 210}, {255, 255, 255, 254}, {255, 255, 255, 255}}
}

func TestTakeOfLengthsThatAreTooGreat(t *testing.T) {
	for _, length := range tooLong() {
		for _, n := range []int{0, 1, 2, 100, longest, longest + 1, longest + 2, 1 << 13, 1<<16 + 1} {
			wantNone(t, "too great a length", frameWith(length, keyOf(n), dataOf(n)), api.ErrLong)
		}
	}
	for n := longest + 1; n < longest+200; n++ {
		wantNone(t, "a whole frame that is too long", plainFrame(keyOf(n), dataOf(n)), api.ErrLong)
	}
	for _, n := range []int{1 << 13, 1<<16 + 1, 1<<24 + 1} {
		wantNone(t, "a whole frame that is too long", plainFrame(keyOf(n), dataOf(n)), api.ErrLong)
	}
}

// Every length from 0 to 4,200 may be, so that bytes that lack are told, and a hash that does not match.
func TestTakeOfOtherLengths(t *testing.T) {
	b := plainFrame(keyOf(1), dataOf(500))
	for n := range longest + 1 {
		other := with(b, lengthAt, 0, 0, byte(n>>8), byte(n))
		switch {
		case n < 500:
			wantNone(t, "too small a length", other, api.ErrRot)
		case n == 500:
			wantTake(t, other, keyOf(1), dataOf(500))
		default:
			wantNone(t, "a length beyond the end", other, api.ErrShort)
			wantNone(t, "a length into what is behind", behind(other, make([]byte, longest)...), api.ErrRot)
		}
	}
}
