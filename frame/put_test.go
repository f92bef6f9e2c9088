package frame_test

import (
	"bytes"
	"encoding/hex"
	"testing"

	"coffer/api"
	"coffer/frame"
)

func TestPutExample(t *testing.T) {
	b, e := frame.Put(api.ID{}, []byte{1})
	if e != api.OK || len(b) != 47 {
		t.Fatalf("P10.1: Put of 32 zeros and {1}: %d bytes, error %d", len(b), e)
	}
	wantNone(t, "its last byte changed", with(b, 46, 2), api.ErrRot)
}

// The frames are written out here, with sums that another program told.
func TestPutOfKnownFrames(t *testing.T) {
	var rising, high api.ID
	for i := range rising {
		rising[i], high[i] = byte(i+1), 255
	}
	const zeros = "0000000000000000000000000000000000000000000000000000000000000000"
	for _, c := range []struct {
		key  api.ID
		data []byte
		want string
	}{
		{api.ID{}, nil, "c746" + "00000000" + "66687aadf862bd77" + zeros},
		{api.ID{}, []byte{1}, "c746" + "00000001" + "1fd4247443c9440c" + zeros + "01"},
		{rising, []byte("abc"), "c746" + "00000003" + "3213a01f7d647d71" + "0102030405060708090a0b0c0d0e0f101112131415161718191a1b1c1d1e1f20" + "616263"},
		{high, []byte{0, 255}, "c746" + "00000002" + "b3609d6eb95a1b80" + "ffffffffffffffffffffffffffffffffffffffffffffffffffffffffffffffff" + "00ff"},
	} {
		want, err := hex.DecodeString(c.want)
		if err != nil {
			t.Fatal(err)
		}
		wantPut(t, c.key, c.data, want)
		wantTake(t, want, c.key, c.data)
	}
}

func TestPutByteByByte(t *testing.T) {
	for n, length := range map[int][]byte{0: {0, 0, 0, 0}, 1: {0, 0, 0, 1}, 255: {0, 0, 0, 255}, 256: {0, 0, 1, 0}, 257: {0, 0, 1, 1}, 4096: {0, 0, 16, 0}, 4199: {0, 0, 16, 103}, 4200: {0, 0, 16, 104}} {
		key, data := keyOf(n), dataOf(n)
		sum := sumOf(append(key[:], data...))
		b, e := frame.Put(key, data)
		if e != api.OK || len(b) != 46+n {
			t.Errorf("P10.1: Put of %d bytes: %d bytes, error %d", n, len(b), e)
			continue
		}
		for _, part := range []struct {
			name      string
			got, want []byte
		}{
			{"first bytes", b[:2], []byte{199, 70}},
			{"length", b[2:6], length},
			{"hash", b[6:14], sum[:8]},
			{"key", b[14:46], key[:]},
			{"data", b[46:], data},
		} {
			if !bytes.Equal(part.got, part.want) {
				t.Errorf("P10.1: Put of %d bytes: %s: %x, not %x", n, part.name, part.got, part.want)
			}
		}
	}
}

func TestPutOfNoData(t *testing.T) {
	for _, key := range []api.ID{{}, keyOf(1)} {
		for _, data := range [][]byte{nil, {}, dataOf(9)[:0]} {
			wantPut(t, key, data, plainFrame(key, nil))
		}
	}
}

func TestPutOfEachLength(t *testing.T) {
	for n := range longest + 1 {
		wantPut(t, keyOf(n), dataOf(n), plainFrame(keyOf(n), dataOf(n)))
	}
}

func TestPutOfEachByte(t *testing.T) {
	for at := range 32 {
		for c := range 256 {
			var key api.ID
			key[at] = byte(c)
			data := with(make([]byte, 40), at, byte(c))
			wantPut(t, key, data, plainFrame(key, data))
		}
	}
}

// What stands in a frame may itself look like one, or like a part of one.
func TestPutOfFrames(t *testing.T) {
	inner := plainFrame(keyOf(1), dataOf(100))
	for _, data := range [][]byte{inner, inner[:46], inner[:2], append(bytes.Clone(inner), inner...)} {
		wantPut(t, keyOf(2), data, plainFrame(keyOf(2), data))
		wantTake(t, plainFrame(keyOf(2), data), keyOf(2), data)
		wantTake(t, behind(plainFrame(keyOf(2), data), inner...), keyOf(2), data)
	}
	key := api.ID(inner[:32])
	wantPut(t, key, inner, plainFrame(key, inner))
	wantTake(t, plainFrame(key, inner), key, inner)
}

func TestPutTooLong(t *testing.T) {
	for _, n := range []int{4201, 4202, 4245, 4246, 4247, 8192, 1 << 16, 1<<16 + 1, 1 << 20, 1 << 24} {
		for _, key := range []api.ID{{}, keyOf(n)} {
			if b, e := frame.Put(key, make([]byte, n)); e != api.ErrLong || len(b) != 0 {
				t.Errorf("P10.1: Put of %d bytes: %d bytes, error %d", n, len(b), e)
			}
		}
	}
}
