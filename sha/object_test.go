package sha_test

import (
	"bytes"
	"crypto/sha256"
	"testing"

	"coffer/api"
	"coffer/sha"
)

// wantNone asks of a nil or a zero hash what the chapter says of it, before and behind writes.
func wantNone(t *testing.T, what string, h *sha.Hash) {
	t.Helper()
	for _, b := range [][]byte{nil, {}, {1}, dataOf(64), dataOf(1000)} {
		h.Write(b)
		if got := h.Sum(); got != (api.ID{}) {
			t.Errorf("P2.1: %s: Sum behind %d bytes: %x", what, len(b), got)
		}
		if got := h.Len(); got != 0 {
			t.Errorf("P2.1: %s: Len behind %d bytes: %d", what, len(b), got)
		}
		if got := h.Copy(); got != nil {
			t.Errorf("P2.1: %s: Copy behind %d bytes is not nil", what, len(b))
		}
	}
}

func TestNoHash(t *testing.T) {
	wantNone(t, "nil", nil)
	wantNone(t, "a copy of nil", (*sha.Hash)(nil).Copy())
	wantNone(t, "zero", &sha.Hash{})
	wantNone(t, "new", new(sha.Hash))
	wantNone(t, "a copy of zero", new(sha.Hash).Copy())
}

func TestMadeZero(t *testing.T) {
	for _, n := range endsOfBlocks() {
		data := dataOf(n)
		h := sha.New()
		h.Write(data)
		c := h.Copy()
		*h = sha.Hash{}
		wantNone(t, "made zero", h)
		wantSum(t, "the copy of one made zero", c, data)
	}
}

func TestNewIsNotNone(t *testing.T) {
	h := sha.New()
	c := h.Copy()
	if h == nil || c == nil || h == c {
		t.Fatalf("P2.1: New or its Copy is nil, or they are one: %p %p", h, c)
	}
	for range 2 {
		wantSum(t, "New", h, nil)
		wantSum(t, "the copy of New", c, nil)
	}
	c.Write([]byte("abc"))
	wantSum(t, "New behind a write to its copy", h, nil)
	wantSum(t, "the copy of New, written to", c, []byte("abc"))
}

// Data of zeros, too, makes a hash that is not taken for a zero one.
func TestZerosAreData(t *testing.T) {
	h := sha.New()
	for n := range 200 {
		wantSum(t, "zeros", h, make([]byte, n))
		h.Write([]byte{0})
	}
}

func TestCopiesGoOnAlone(t *testing.T) {
	for _, n := range endsOfBlocks() {
		for _, m := range endsOfBlocks() {
			head := dataOf(n)
			one := append(bytes.Clone(head), dataOf(m)...)
			other := append(bytes.Clone(head), bytes.Repeat([]byte{165}, m+3)...)
			h := sha.New()
			h.Write(head)
			c := h.Copy()
			h.Write(one[n:])
			wantSum(t, "the copy, untouched", c, head)
			c.Write(other[n:])
			wantSum(t, "the original", h, one)
			wantSum(t, "the copy", c, other)
			d := c.Copy()
			d.Write(one)
			wantSum(t, "the copy behind a write to its copy", c, other)
			wantSum(t, "the copy of the copy", d, append(bytes.Clone(other), one...))
		}
	}
}

func TestCopyOfManyCuts(t *testing.T) {
	next := numbers(5)
	for range 200 {
		data := dataOf(int(next() % 500))
		h := sha.New()
		var copies []*sha.Hash
		var ends []int
		n := 0
		for _, piece := range cuts(data, next) {
			copies = append(copies, h.Copy())
			ends = append(ends, n)
			h.Write(piece)
			n += len(piece)
		}
		for i, c := range copies {
			wantSum(t, "a copy that waits", c, data[:ends[i]])
			c.Write(data[ends[i]:])
			wantSum(t, "a copy that catches up", c, data)
		}
		wantSum(t, "the original", h, data)
	}
}

func TestHashesSideBySide(t *testing.T) {
	a, b := dataOf(333), dataOf(444)
	h, g := sha.New(), sha.New()
	for i := range 111 {
		h.Write(a[3*i : 3*i+3])
		g.Write(b[4*i : 4*i+4])
		wantSum(t, "one of two", h, a[:3*i+3])
		wantSum(t, "the other of two", g, b[:4*i+4])
	}
}

// scribble writes over b and its unused capacity.
func scribble(b []byte) {
	b = b[:cap(b)]
	for i := range b {
		b[i] ^= 255
	}
}

func TestWriteKeepsNothing(t *testing.T) {
	for _, n := range endsOfBlocks() {
		for _, m := range endsOfBlocks() {
			first, second := dataOf(n), dataOf(m)
			data := append(bytes.Clone(first), second...)
			h := sha.New()
			h.Write(first)
			scribble(first)
			h.Write(second)
			c := h.Copy()
			scribble(second)
			wantSum(t, "with what was handed in written over", h, data)
			wantSum(t, "the copy, with what was handed in written over", c, data)
		}
	}
}

func TestArgumentsStay(t *testing.T) {
	for _, n := range endsOfBlocks() {
		whole := dataOf(n + 300)
		before := bytes.Clone(whole)
		given := whole[100 : 100+n]
		h := sha.New()
		h.Write(given)
		h.Write(given)
		h.Sum()
		h.Copy().Write(given)
		sha.Of(given, whole[:7], given)
		if !bytes.Equal(whole, before) {
			t.Errorf("P0.3: %d bytes: an argument is changed", n)
		}
		parts := [][]byte{given, nil, whole[:7]}
		sha.Of(parts...)
		if len(parts[0]) != n || parts[1] != nil || len(parts[2]) != 7 || !bytes.Equal(whole, before) {
			t.Errorf("P0.3: %d bytes: the parts are changed", n)
		}
	}
}

func TestSumsAreValues(t *testing.T) {
	h := sha.New()
	h.Write([]byte("abc"))
	a := h.Sum()
	scribble(a[:])
	wantSum(t, "behind a sum that was written over", h, []byte("abc"))
	b := sha.Of([]byte("abc"))
	scribble(b[:])
	if sha.Of([]byte("abc")) != sha256.Sum256([]byte("abc")) {
		t.Error("P0.3: a sum that was written over changes a later one")
	}
}
