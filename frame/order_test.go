package frame_test

import (
	"bytes"
	"testing"

	"coffer/api"
)

// Of two errors, the one that the chapter states first is told. Each case has the error that is wanted, and every one behind it.
func TestErrorsInOrder(t *testing.T) {
	long, longer := []byte{0, 0, 16, 105}, []byte{255, 255, 255, 255}
	b := plainFrame(keyOf(1), dataOf(100))
	rotten := with(b, checkAt, b[checkAt]+1)
	for _, c := range []struct {
		name string
		b    []byte
		want api.Errno
	}{
		{"few bytes, a wrong first one", with(b, 0, 0)[:45], api.ErrShort},
		{"few bytes, a wrong second one", with(b, 1, 0)[:45], api.ErrShort},
		{"few bytes, wrong ones, too great a length", with(with(b, 0, 0, 0), lengthAt, longer...)[:45], api.ErrShort},
		{"few bytes, too great a length", with(b, lengthAt, long...)[:45], api.ErrShort},
		{"few bytes, the greatest length", with(b, lengthAt, longer...)[:45], api.ErrShort},
		{"one byte, a wrong one", []byte{1}, api.ErrShort},
		{"two bytes, wrong ones", []byte{70, 199}, api.ErrShort},

		{"a wrong first byte, too great a length", with(with(b, 0, 0), lengthAt, long...), api.ErrSyntax},
		{"a wrong second byte, too great a length", with(with(b, 1, 0), lengthAt, long...), api.ErrSyntax},
		{"a wrong first byte, the greatest length", with(with(b, 0, 0), lengthAt, longer...), api.ErrSyntax},
		{"a wrong second byte, the greatest length", with(with(b, 1, 0), lengthAt, longer...), api.ErrSyntax},
		{"a wrong first byte, cut off", with(b, 0, 0)[:46], api.ErrSyntax},
		{"a wrong second byte, cut off", with(b, 1, 0)[:145], api.ErrSyntax},
		{"a wrong first byte, a wrong hash", with(rotten, 0, 0), api.ErrSyntax},
		{"a wrong second byte, a wrong hash", with(rotten, 1, 0), api.ErrSyntax},

		{"4,201, with too few bytes", with(b, lengthAt, long...), api.ErrLong},
		{"4,201, with no bytes", with(b, lengthAt, long...)[:46], api.ErrLong},
		{"2^32 - 1, with too few bytes", with(b, lengthAt, longer...), api.ErrLong},
		{"2^32 - 1, with no bytes", with(b, lengthAt, longer...)[:46], api.ErrLong},
		{"4,201, with its bytes and a wrong hash", with(plainFrame(keyOf(1), dataOf(4201)), checkAt, 0, 0), api.ErrLong},

		{"cut off, a wrong hash", rotten[:145], api.ErrShort},
		{"cut off in front of the data, a wrong hash", rotten[:46], api.ErrShort},
		{"cut off, a wrong key", with(b, keyAt, 0)[:145], api.ErrShort},
		{"4,200, with a byte too few", plainFrame(keyOf(1), dataOf(4200))[:4245], api.ErrShort},

		{"a wrong hash", rotten, api.ErrRot},
		{"a wrong hash, with other bytes behind", behind(rotten, 1, 2, 3), api.ErrRot},
	} {
		wantNone(t, c.name, c.b, c.want)
	}
}

// turnError is what the chapter says of a frame, with no bytes behind it, one byte of which is another one.
func turnError(b []byte, at int) api.Errno {
	size := int(b[2])<<24 | int(b[3])<<16 | int(b[4])<<8 | int(b[5])
	switch {
	case at < lengthAt:
		return api.ErrSyntax
	case size > longest:
		return api.ErrLong
	case len(b) < head+size:
		return api.ErrShort
	default:
		return api.ErrRot
	}
}

func TestEveryByteTurned(t *testing.T) {
	for _, n := range []int{0, 1, 18, 300} {
		b := plainFrame(keyOf(n), dataOf(n))
		for at := range b {
			for c := 1; c < 256; c++ {
				turned := with(b, at, b[at]^byte(c))
				wantNone(t, "a byte turned", turned, turnError(turned, at))
			}
		}
	}
	b := plainFrame(keyOf(2), dataOf(longest))
	for at := range b {
		for _, c := range []byte{1, 128, 255} {
			turned := with(b, at, b[at]^c)
			wantNone(t, "a byte of the longest frame turned", turned, turnError(turned, at))
		}
	}
}

// Each of the eight bytes counts, and no other byte of the hash.
func TestEachByteOfTheHash(t *testing.T) {
	for _, n := range []int{0, 1, 100, longest} {
		b := plainFrame(keyOf(n), dataOf(n))
		for at := checkAt; at < keyAt; at++ {
			for bit := range 8 {
				wantNone(t, "a bit of the hash", with(b, at, b[at]^1<<bit), api.ErrRot)
			}
			wantNone(t, "the hash up to a byte", with(b, at, make([]byte, keyAt-at)...), api.ErrRot)
			wantNone(t, "the hash from a byte on", with(b, checkAt, make([]byte, at-checkAt+1)...), api.ErrRot)
		}
	}
}

// Two bytes that are turned alike, or that change places, do not make up for each other.
func TestTwoBytesTurned(t *testing.T) {
	b := plainFrame(keyOf(3), dataOf(20))
	for i := checkAt; i < len(b); i++ {
		for k := i + 1; k < len(b); k++ {
			wantNone(t, "two bytes turned", with(with(b, i, b[i]^1), k, b[k]^1), api.ErrRot)
			if b[i] != b[k] {
				wantNone(t, "two bytes swapped", with(with(b, i, b[k]), k, b[i]), api.ErrRot)
			}
		}
	}
}

// The hash is that of the key followed by the data, and of nothing else.
func TestOtherHashes(t *testing.T) {
	key, data := keyOf(4), dataOf(32)
	b := plainFrame(key, data)
	other := keyOf(5)
	for name, hashed := range map[string][]byte{
		"the data":                  data,
		"the key":                   key[:],
		"the data, then the key":    append(bytes.Clone(data), key[:]...),
		"another key and the data":  append(bytes.Clone(other[:]), data...),
		"the key, with its length":  append(bytes.Clone(b[lengthAt:checkAt]), b[keyAt:]...),
		"all but the hash":          append(bytes.Clone(b[:checkAt]), b[keyAt:]...),
		"nothing":                   nil,
		"a byte of the data fewer":  b[keyAt : len(b)-1],
		"a byte of the data more":   behind(b[keyAt:], 0),
		"all of it, its hash zeros": with(b, checkAt, make([]byte, 8)...),
	} {
		sum := sumOf(hashed)
		wantNone(t, "the hash of "+name, with(b, checkAt, sum[:8]...), api.ErrRot)
	}
	sum := sumOf(b[keyAt:])
	wantTake(t, with(b, checkAt, sum[:8]...), key, data)
	for at := 1; at <= 24; at++ {
		wantNone(t, "another part of the hash", with(b, checkAt, sum[at:at+8]...), api.ErrRot)
	}
}
