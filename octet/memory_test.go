package octet_test

import (
	"bytes"
	"math"
	"testing"

	"coffer/api"
	"coffer/octet"
)

// numbers gives a row of numbers that looks random and is the same in every run.
func numbers(seed uint64) func() uint64 {
	return func() uint64 {
		seed ^= seed << 13
		seed ^= seed >> 7
		seed ^= seed << 17
		return seed
	}
}

// edgeNumbers has the neighbours of each power of 2, patterns, and numbers of all lengths.
func edgeNumbers() []uint64 {
	l := []uint64{0, 300, 515, math.MaxUint64, math.MaxUint64 - 1, 0x0102030405060708, 0xfedcba9876543210, 0x8080808080808080, 0x5555555555555555, 0xaaaaaaaaaaaaaaaa}
	for i := range 64 {
		l = append(l, 1<<i, 1<<i-1, 1<<i+1)
	}
	next := numbers(1)
	for i := range 64 {
		l = append(l, next()>>i)
	}
	return l
}

// framed is a slice with foreign bytes in front of it and in its unused capacity.
type framed struct{ whole, given []byte }

func frame(b []byte) framed {
	whole := bytes.Repeat([]byte{165}, len(b)+200)
	copy(whole[20:], b)
	return framed{whole, whole[20 : 20+len(b)]}
}

func scribble(b []byte) {
	b = b[:cap(b)]
	for i := range b {
		b[i] ^= 255
	}
}

// wantOwnMemory calls with framed arguments and holds arguments and results apart.
func wantOwnMemory(t *testing.T, name string, call func(l [][]byte) []byte, args ...[]byte) {
	t.Helper()
	var frames []framed
	var given, before [][]byte
	for _, a := range args {
		f := frame(a)
		frames = append(frames, f)
		given = append(given, f.given)
		before = append(before, bytes.Clone(f.whole))
	}
	wantSame := func(when string) {
		t.Helper()
		for i, f := range frames {
			if !bytes.Equal(f.whole, before[i]) {
				t.Errorf("P0.3: %s: argument %d %s", name, i, when)
			}
		}
	}
	first := call(given)
	wantSame("is changed by the call")
	want := bytes.Clone(first)
	second := call(given)
	scribble(first)
	wantSame("shares memory with the result")
	if !bytes.Equal(second, want) {
		t.Errorf("P0.3: %s: two results share memory", name)
	}
	third := call(given)
	for _, f := range frames {
		scribble(f.whole)
	}
	if !bytes.Equal(second, want) || !bytes.Equal(third, want) {
		t.Errorf("P0.3: %s: a result changes with its arguments or with an earlier result", name)
	}
	if got := call(args); !bytes.Equal(got, want) {
		t.Errorf("P0.5: %s: the result depends on capacity or on earlier calls", name)
	}
}

func TestMemoryOfNumbers(t *testing.T) {
	for _, head := range [][]byte{nil, {}, {1}, {1, 2, 3}, textOf(100)} {
		for _, v := range []uint64{0, 127, 128, 1 << 20, math.MaxUint64} {
			for _, n := range []int{0, 1, 2, 4, 8, 9} {
				wantOwnMemory(t, "Put", func(l [][]byte) []byte {
					b, _ := octet.Put(l[0], v, n)
					return b
				}, head)
			}
			wantOwnMemory(t, "Count", func(l [][]byte) []byte {
				return octet.Count(l[0], v)
			}, head)
		}
	}
}

func TestMemoryOfTexts(t *testing.T) {
	text := func(l [][]byte) []byte {
		b, _ := octet.Text(l[0], l[1])
		return b
	}
	take := func(l [][]byte) []byte {
		s, _, _ := octet.TakeText(l[0])
		return s
	}
	for _, s := range [][]byte{nil, {}, {7}, textOf(50), textOf(200), textOf(longest), textOf(longest + 1)} {
		for _, head := range [][]byte{nil, {}, {1}, {1, 2, 3}} {
			wantOwnMemory(t, "Text", text, head, s)
		}
		b, _ := octet.Text(nil, s)
		wantOwnMemory(t, "TakeText", take, b)
		wantOwnMemory(t, "TakeText", take, append(b, 1, 2, 3))
	}
}

func TestMemoryOfBits(t *testing.T) {
	for _, b := range [][]byte{nil, {}, {0}, {255}, {170, 85}, textOf(100)} {
		for _, i := range []int{-1, 0, 1, 7, 8, 15, 799, 800} {
			for _, on := range []bool{true, false} {
				wantOwnMemory(t, "SetBit", func(l [][]byte) []byte {
					got, _ := octet.SetBit(l[0], i, on)
					return got
				}, b)
			}
		}
	}
}

// TestReadersChangeNothing: the calls that answer no slice leave their arguments alone too.
func TestReadersChangeNothing(t *testing.T) {
	for _, b := range [][]byte{nil, {}, {5}, {172, 2}, {128, 0}, textOf(30)} {
		wantOwnMemory(t, "At, TakeCount, Bit", func(l [][]byte) []byte {
			v, e := octet.At(l[0], 1, 1)
			u, n, f := octet.TakeCount(l[0])
			on, g := octet.Bit(l[0], 3)
			if on {
				n += 100
			}
			return []byte{byte(v), byte(u), byte(u >> 8), byte(n), byte(e), byte(f), byte(g)}
		}, b)
	}
}

func TestNothingPanics(t *testing.T) {
	ints := []int{0, 1, 7, 8, 9, 64, 65, -1, math.MaxInt, math.MaxInt - 7, math.MinInt, math.MinInt + 1, 1 << 61, 1 << 32}
	slices := [][]byte{nil, {}, {0}, {255}, textOf(9), bytes.Repeat([]byte{255}, 40), bytes.Repeat([]byte{128}, 1<<20)}
	words := []uint64{0, 1, 255, 1 << 63, math.MaxUint64}
	for _, b := range slices {
		octet.TakeCount(b)
		octet.TakeText(b)
		for _, s := range slices {
			octet.Text(b, s)
		}
		for _, i := range ints {
			octet.Bit(b, i)
			octet.SetBit(b, i, true)
			for _, n := range ints {
				octet.At(b, i, n)
			}
			for _, v := range words {
				octet.Count(b, v)
				octet.Put(b, v, i)
				octet.Wrap(v, i)
			}
		}
	}
	if octet.Zag(octet.Zig(math.MinInt64)) != math.MinInt64 {
		t.Error("P1.4: MinInt64")
	}
}

// TestErrorsLeaveNothingElse: beside an error each other result is its zero value.
func TestErrorsLeaveNothingElse(t *testing.T) {
	type outcome struct {
		length int
		number uint64
		count  int
		on     bool
		e      api.Errno
	}
	put, putE := octet.Put([]byte{1, 2}, 1<<16, 2)
	at, atE := octet.At([]byte{1, 2}, 1, 2)
	count, countN, countE := octet.TakeCount([]byte{255, 255})
	text, textE := octet.Text([]byte{1, 2}, make([]byte, longest+1))
	take, takeN, takeE := octet.TakeText([]byte{3, 1, 2})
	on, onE := octet.Bit([]byte{255}, 8)
	set, setE := octet.SetBit([]byte{255}, 8, true)
	for i, c := range []struct{ got, want outcome }{
		{outcome{length: len(put), e: putE}, outcome{e: api.ErrLong}},
		{outcome{number: at, e: atE}, outcome{e: api.ErrShort}},
		{outcome{number: count, count: countN, e: countE}, outcome{e: api.ErrShort}},
		{outcome{length: len(text), e: textE}, outcome{e: api.ErrLong}},
		{outcome{length: len(take), count: takeN, e: takeE}, outcome{e: api.ErrShort}},
		{outcome{on: on, e: onE}, outcome{e: api.ErrArg}},
		{outcome{length: len(set), e: setE}, outcome{e: api.ErrArg}},
	} {
		if c.got != c.want {
			t.Errorf("P0.2: %d: %v", i, c.got)
		}
	}
}
