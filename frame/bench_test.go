package frame_test

import (
	"bytes"
	"crypto/sha256"
	"encoding/binary"
	"testing"

	"coffer/api"
	"coffer/frame"
)

const (
	head     = 46   // bytes ahead of the data
	longest  = 4200 // bytes of data
	lengthAt = 2
	checkAt  = 6
	keyAt    = 14
)

// dataOf is n bytes that differ from their neighbours.
func dataOf(n int) []byte {
	b := make([]byte, n)
	for i := range b {
		b[i] = byte(i*7 + i>>8 + n)
	}
	return b
}

// keyOf is a key all of whose bytes differ.
func keyOf(n int) api.ID {
	var key api.ID
	for i := range key {
		key[i] = byte(n + 5*i)
	}
	return key
}

// lengths has the edges of a length's bytes, of what SHA-256 takes at once, and of a frame.
func lengths() []int {
	return []int{0, 1, 2, 22, 23, 24, 31, 32, 33, 45, 46, 47, 63, 64, 65, 127, 128, 254, 255, 256, 257, 511, 512, 513, 1000, 4095, 4096, 4097, longest - 1, longest}
}

// plainFrame is what the chapter's Definitions say, of data of any length.
func plainFrame(key api.ID, data []byte) []byte {
	return frameWith(binary.BigEndian.AppendUint32(nil, uint32(len(data))), key, data)
}

// frameWith is a frame that tells a length of its own.
func frameWith(length []byte, key api.ID, data []byte) []byte {
	sum := sumOf(append(key[:], data...))
	return bytes.Join([][]byte{{199, 70}, length, sum[:8], key[:], data}, nil)
}

func sumOf(b []byte) [32]byte {
	return sha256.Sum256(b)
}

// with is a copy of b whose bytes from offset at on are others.
func with(b []byte, at int, others ...byte) []byte {
	out := bytes.Clone(b)
	copy(out[at:], others)
	return out
}

// behind is b, with other bytes behind it.
func behind(b []byte, others ...byte) []byte {
	return append(bytes.Clone(b), others...)
}

func wantPut(t *testing.T, key api.ID, data, want []byte) {
	t.Helper()
	if got, e := frame.Put(key, data); e != api.OK || !bytes.Equal(got, want) {
		t.Errorf("P10.1: Put of %d bytes: %x %d, not %x", len(data), got, e, want)
	}
}

func wantTake(t *testing.T, b []byte, key api.ID, data []byte) {
	t.Helper()
	k, d, n, e := frame.Take(b)
	if e != api.OK || k != key || !bytes.Equal(d, data) || n != head+len(data) {
		t.Errorf("P10.2: Take of %d bytes: key %x, %d bytes, length %d, error %d; not key %x, %d bytes", len(b), k, len(d), n, e, key, len(data))
	}
}

func wantNone(t *testing.T, name string, b []byte, want api.Errno) {
	t.Helper()
	k, d, n, e := frame.Take(b)
	if e != want {
		t.Errorf("P10.2: Take of %d bytes, %s: error %d, not %d", len(b), name, e, want)
	}
	if k != (api.ID{}) || len(d) != 0 || n != 0 {
		t.Errorf("P0.2: Take of %d bytes, %s: beside error %d key %x, %d bytes, length %d", len(b), name, e, k, len(d), n)
	}
}
