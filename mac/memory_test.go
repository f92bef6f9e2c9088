package mac_test

import (
	"bytes"
	"testing"

	"coffer/api"
	"coffer/mac"
)

// withRoom is b with foreign bytes in front of it and in its unused capacity; whole is all of that.
func withRoom(b []byte) (whole, given []byte) {
	whole = repeated(165, len(b)+200)
	copy(whole[100:], b)
	return whole, whole[100 : 100+len(b)]
}

func writeOver(b []byte) {
	b = b[:cap(b)]
	for i := range b {
		b[i] ^= 255
	}
}

func TestArgumentsStay(t *testing.T) {
	for _, n := range lengths() {
		for _, m := range lengths() {
			wholeKey, key := withRoom(dataOf(n))
			wholeB, b := withRoom(dataOf(m))
			parts := [][]byte{b, nil, key, b, {1}}
			room := parts[:4]
			mac.Raw(key, b)
			mac.Of(key, room...)
			mac.Equal(key, b)
			mac.Equal(b, bytes.Clone(b))
			wantKey, _ := withRoom(dataOf(n))
			wantB, _ := withRoom(dataOf(m))
			if !bytes.Equal(wholeKey, wantKey) || !bytes.Equal(wholeB, wantB) {
				t.Errorf("P0.3: a key of %d, %d bytes: an argument is changed", n, m)
			}
			if len(parts[0]) != m || parts[1] != nil || len(parts[2]) != n || len(parts[3]) != m || len(parts[4]) != 1 {
				t.Errorf("P0.3: a key of %d, %d bytes: the list of parts is changed", n, m)
			}
		}
	}
}

func TestNothingIsKept(t *testing.T) {
	for _, n := range lengths() {
		for _, m := range lengths() {
			key, b := dataOf(n), dataOf(m)
			parts := [][]byte{b, key}
			raw, of := mac.Raw(key, b), mac.Of(key, parts...)
			writeOver(key)
			writeOver(b)
			clear(parts)
			if raw != byLibrary(dataOf(n), dataOf(m)) || of != byLibrary(dataOf(n), joined([][]byte{dataOf(m), dataOf(n)})) {
				t.Errorf("P0.3: a key of %d, %d bytes: a code changes with what was handed in", n, m)
			}
			wantRaw(t, dataOf(n), dataOf(m))
			wantOf(t, dataOf(n), dataOf(m), dataOf(n))
			wantRaw(t, key, b)
			wantOf(t, key, b, nil)
		}
	}
}

func TestEqualKeepsNothing(t *testing.T) {
	a, b := dataOf(40), dataOf(40)
	wantEqual(t, a, b, true)
	writeOver(a)
	wantEqual(t, a, b, false)
	writeOver(b)
	wantEqual(t, a, b, true)
}

func TestCodesAreValues(t *testing.T) {
	key := api.ID(dataOf(32))
	raw, of, derived := mac.Raw(key[:], []byte("b")), mac.Of(key[:], []byte("b")), mac.Derive(key, "b", 1)
	again := []api.ID{raw, of, derived}
	writeOver(raw[:])
	writeOver(of[:])
	writeOver(derived[:])
	if mac.Raw(key[:], []byte("b")) != again[0] || mac.Of(key[:], []byte("b")) != again[1] || mac.Derive(key, "b", 1) != again[2] {
		t.Error("P0.3: a code that was written over changes a later one")
	}
	if key != api.ID(dataOf(32)) {
		t.Error("P0.3: the key is changed")
	}
}

// What a call answers does not hang on the calls in between, nor on the capacity of what it is given.
func TestCallsDoNotInfluenceEachOther(t *testing.T) {
	key, b := dataOf(33), dataOf(77)
	raw, of, derived := mac.Raw(key, b), mac.Of(key, b, b), mac.Derive(api.ID{5}, "label", 6)
	for _, n := range lengths() {
		mac.Raw(dataOf(n), dataOf(n))
		mac.Of(dataOf(n), dataOf(n), nil)
		mac.Derive(api.ID{byte(n)}, string(dataOf(n)), uint64(n))
		mac.Equal(dataOf(n), b)
		_, roomyKey := withRoom(key)
		_, roomyB := withRoom(b)
		if mac.Raw(roomyKey, roomyB) != raw || mac.Of(roomyKey, roomyB, roomyB) != of || mac.Derive(api.ID{5}, "label", 6) != derived {
			t.Errorf("P0.5: another code behind calls with %d bytes", n)
		}
	}
}
