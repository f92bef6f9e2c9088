package frame_test

import (
	"bytes"
	"testing"

	"coffer/api"
	"coffer/frame"
)

// withRoom is b with foreign bytes in front of it and in its unused capacity; whole is all of that.
func withRoom(b []byte) (whole, given []byte) {
	whole = bytes.Repeat([]byte{165}, len(b)+200)
	copy(whole[100:], b)
	return whole, whole[100 : 100+len(b)]
}

func writeOver(b []byte) {
	b = b[:cap(b)]
	for i := range b {
		b[i] ^= 255
	}
}

func wantBytes(t *testing.T, what string, got, want []byte) {
	t.Helper()
	if !bytes.Equal(got, want) {
		t.Errorf("P0.3: %s", what)
	}
}

func TestPutLeavesItsArgument(t *testing.T) {
	for _, n := range append(lengths(), longest+1) {
		whole, given := withRoom(dataOf(n))
		before := bytes.Clone(whole)
		first, _ := frame.Put(keyOf(n), given)
		wantBytes(t, "Put changes its argument", whole, before)
		second, _ := frame.Put(keyOf(n), given)
		want := bytes.Clone(second)
		writeOver(first)
		wantBytes(t, "a frame shares memory with Put's argument", whole, before)
		wantBytes(t, "two frames share memory", second, want)
		writeOver(whole)
		wantBytes(t, "a frame changes with Put's argument", second, want)
		if n <= longest {
			wantBytes(t, "a frame depends on its argument's capacity", second, plainFrame(keyOf(n), dataOf(n)))
		}
	}
}

// What is appended to a frame lands in no other one, and not in what was given.
func TestAppendToFrames(t *testing.T) {
	for _, n := range lengths() {
		whole, given := withRoom(dataOf(n))
		before := bytes.Clone(whole)
		first, _ := frame.Put(keyOf(n), given)
		second, _ := frame.Put(keyOf(n), given)
		_ = append(first, dataOf(300)...)
		wantBytes(t, "an append changes another frame", second, plainFrame(keyOf(n), dataOf(n)))
		wantBytes(t, "an append changes Put's argument", whole, before)
	}
}

func TestTakeLeavesItsArgument(t *testing.T) {
	for _, n := range lengths() {
		for _, others := range [][]byte{nil, {1, 2, 3}, plainFrame(keyOf(1), dataOf(50))} {
			whole, given := withRoom(behind(plainFrame(keyOf(n), dataOf(n)), others...))
			before := bytes.Clone(whole)
			_, first, _, e := frame.Take(given)
			_, second, _, f := frame.Take(given)
			if e != api.OK || f != api.OK {
				t.Fatalf("P10.2: Take of %d bytes: errors %d, %d", len(given), e, f)
			}
			wantBytes(t, "Take changes its argument", whole, before)
			_ = append(first, dataOf(300)...)
			wantBytes(t, "an append to the data changes Take's argument", whole, before)
			wantBytes(t, "an append to the data changes other data", second, dataOf(n))
			writeOver(first)
			wantBytes(t, "the data shares memory with Take's argument", whole, before)
			wantBytes(t, "the data of two calls shares memory", second, dataOf(n))
			writeOver(whole)
			wantBytes(t, "the data changes with Take's argument", second, dataOf(n))
		}
	}
}

// A key that was returned is a value: it does not change with what it was read from.
func TestKeysAreValues(t *testing.T) {
	b := plainFrame(keyOf(7), dataOf(7))
	key, _, _, _ := frame.Take(b)
	writeOver(b)
	if key != keyOf(7) {
		t.Errorf("P0.3: the key changes with Take's argument: %x", key)
	}
	clear(key[:])
	wantTake(t, plainFrame(keyOf(7), dataOf(7)), keyOf(7), dataOf(7))
	mine := keyOf(8)
	first, _ := frame.Put(mine, dataOf(8))
	clear(mine[:])
	wantBytes(t, "a frame changes with Put's key", first, plainFrame(keyOf(8), dataOf(8)))
}

func TestTakeOfWrongInputsLeavesThem(t *testing.T) {
	b := plainFrame(keyOf(1), dataOf(60))
	for _, bad := range [][]byte{nil, b[:45], b[:105], with(b, 0, 0), with(b, 1, 0), with(b, lengthAt, 255), with(b, checkAt, 0, 0), with(b, 105, 1)} {
		whole, given := withRoom(bad)
		before := bytes.Clone(whole)
		frame.Take(given)
		wantBytes(t, "a Take that fails changes its argument", whole, before)
	}
}

// What a call answers does not hang on the calls in between, nor on the capacity of what it is given.
func TestCallsDoNotInfluenceEachOther(t *testing.T) {
	b := plainFrame(keyOf(1), dataOf(60))
	for _, between := range [][]byte{nil, b[:45], b[:105], with(b, 0, 0), with(b, lengthAt, 255), with(b, 105, 1), dataOf(longest), dataOf(longest + 1), plainFrame(keyOf(2), dataOf(longest))} {
		frame.Take(between)
		frame.Put(keyOf(3), between)
		frame.Size(len(between))
		wantPut(t, keyOf(1), dataOf(60), b)
		wantTake(t, b, keyOf(1), dataOf(60))
		_, given := withRoom(b)
		wantTake(t, given, keyOf(1), dataOf(60))
		wantTake(t, given[:len(given):len(given)], keyOf(1), dataOf(60))
		wantNone(t, "cut off, the rest in its capacity", given[:len(given)-1], api.ErrShort)
		wantSize(t, 60, 106)
	}
}
