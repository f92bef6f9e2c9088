package frame_test

import (
	"bytes"
	"testing"

	"coffer/api"
	"coffer/frame"
)

// numbers gives a row of numbers that looks random and is the same in every run.
func numbers(seed uint64) func() uint64 {
	return func() uint64 {
		seed ^= seed << 13
		seed ^= seed >> 7
		seed ^= seed << 17
		return seed
	}
}

func bytesBy(next func() uint64, n int) []byte {
	b := make([]byte, n)
	for i := range b {
		b[i] = byte(next() >> 11)
	}
	return b
}

// plainTake is Take as P10.2 says it, step by step. What it returns shares memory with b.
func plainTake(b []byte) (api.ID, []byte, int, api.Errno) {
	if len(b) < 46 {
		return api.ID{}, nil, 0, api.ErrShort
	}
	if !bytes.HasPrefix(b, []byte{199, 70}) {
		return api.ID{}, nil, 0, api.ErrSyntax
	}
	size := int64(b[2])<<24 + int64(b[3])<<16 + int64(b[4])<<8 + int64(b[5])
	if size > 4200 {
		return api.ID{}, nil, 0, api.ErrLong
	}
	if int64(len(b)) < 46+size {
		return api.ID{}, nil, 0, api.ErrShort
	}
	key, data := api.ID(b[14:46]), b[46:46+size]
	if !bytes.Equal(plainFrame(key, data), b[:46+size]) {
		return api.ID{}, nil, 0, api.ErrRot
	}
	return key, data, int(46 + size), api.OK
}

func wantAsPlain(t *testing.T, b []byte) {
	t.Helper()
	k, d, n, e := frame.Take(b)
	wantK, wantD, wantN, wantE := plainTake(b)
	if k != wantK || !bytes.Equal(d, wantD) || n != wantN || e != wantE {
		t.Errorf("P10.2: Take of %d bytes, %.60x: key %x, %d bytes, length %d, error %d; not key %x, %d bytes, length %d, error %d", len(b), b, k, len(d), n, e, wantK, len(wantD), wantN, wantE)
	}
}

func TestTakeOfAnyBytes(t *testing.T) {
	next := numbers(1)
	for range 20000 {
		b := bytesBy(next, int(next()%300))
		wantAsPlain(t, b)
		copy(b, []byte{199, 70})
		wantAsPlain(t, b)
		if len(b) >= checkAt {
			copy(b[lengthAt:], []byte{0, 0, 0, byte(next())})
			wantAsPlain(t, b)
		}
	}
}

// Frames that were put, and then changed, cut off and lengthened anywhere.
func TestTakeOfChangedFrames(t *testing.T) {
	next := numbers(2)
	for range 20000 {
		key, data := api.ID(bytesBy(next, 32)), bytesBy(next, int(next()%200))
		b, e := frame.Put(key, data)
		if e != api.OK {
			t.Fatalf("P10.1: Put of %d bytes: error %d", len(data), e)
		}
		wantPut(t, key, data, plainFrame(key, data))
		wantTake(t, b, key, data)
		b = append(b, bytesBy(next, int(next()%100))...)
		wantAsPlain(t, b)
		for range next() % 3 {
			b[next()%uint64(len(b))] ^= byte(next())
		}
		wantAsPlain(t, b)
		wantAsPlain(t, b[:next()%uint64(len(b)+1)])
		wantAsPlain(t, b[next()%uint64(len(b)):])
	}
}

// Nothing that is given makes a call panic, long slices included.
func TestNothingPanics(t *testing.T) {
	for _, c := range []byte{0, 70, 127, 128, 199, 255} {
		for _, n := range []int{0, 1, 2, 5, 6, 13, 14, 45, 46, 47, 4246, 1 << 16, 1 << 20} {
			b := bytes.Repeat([]byte{c}, n)
			wantAsPlain(t, b)
			frame.Put(api.ID{}, b)
			frame.Size(n)
			frame.Size(-n)
			copy(b, []byte{199, 70})
			wantAsPlain(t, b)
		}
	}
}
