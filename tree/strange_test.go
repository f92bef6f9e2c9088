package tree_test

import (
	"bytes"
	"testing"

	"coffer/api"
	"coffer/tree"
)

// strangeNode is a node of that kind and that many keys, whether it may be or not, with bytes that look random and children among so many sectors.
func strangeNode(next func() uint64, kind, count, homes int) []byte {
	b := zeros()
	for i := range b {
		b[i] = byte(next() % 3)
	}
	b[0], b[1] = byte(kind), byte(count)
	for k := 8; k+4 <= 512 && kind == 2; k += 36 {
		at := next() % uint64(homes+2)
		b[k], b[k+1], b[k+2], b[k+3] = 0, 0, byte(at>>8), byte(at)
	}
	return b
}

// wantEnd makes each call: all that is promised is that it comes back, with zeros beside an error.
func (w *wood) wantEnd(root uint32, key api.ID) {
	w.t.Helper()
	for _, c := range append(all(key), scan(key, 1<<62), scan(key, -5)) {
		if got := c.do(w.x, root); got.e != api.OK && !got.zero {
			w.t.Errorf("P0.2: %s(root %d): error %d, and %s", c.name, root, got.e, got.words)
		}
	}
}

// Roots that are not valid: of sectors that are no nodes, that do not exist, and of no sector's number.
func TestRootsThatAreNotValid(t *testing.T) {
	w := plantWood(t, 600, 1)
	w.grow(orders(60)["mixed"]...)
	w.write(300, bytes.Repeat([]byte{2}, 512))
	w.write(301, bytes.Repeat([]byte{1}, 512))
	w.write(302, bytes.Repeat([]byte{255}, 512))
	w.write(303, append([]byte{1, 0}, make([]byte, 510)...))
	w.write(304, append([]byte{2, 0}, make([]byte, 510)...))
	w.write(305, append([]byte{2, 13}, make([]byte, 510)...))
	for _, root := range []uint32{0, 1, 2, 3, 299, 300, 301, 302, 303, 304, 305, 465, 466, 467, 4095, 4096, 65536, 1 << 24, 1 << 31, 1<<31 + 4, 1<<32 - 1} {
		for n := range 4 {
			w.wantEnd(root, keyOf(n*20))
		}
	}
}

// Nodes that lead to one another in circles, and those that many others lead to: each call comes back, however many ways there are.
func TestCircles(t *testing.T) {
	t.Parallel()
	for k := range 4 {
		w := plantWood(t, 600, 1)
		for at := 10; at < 40; at++ {
			b := zeros()
			b[0], b[1] = 2, byte(1+4*k)
			for i := range 2 + 4*k {
				b[11+36*i] = byte(at)
				if k%2 == 1 {
					b[11+36*i] = byte(at + 1)
				}
			}
			w.write(at, b)
		}
		for at := uint32(10); at < 40; at++ {
			w.wantEnd(at, keyOf(int(at)))
		}
	}
}

// Woods of nodes that fit together by chance only.
func TestStrangeNodes(t *testing.T) {
	t.Parallel()
	for seed := range 300 {
		next := numbers(uint64(seed))
		w := plantWood(t, 200, 1)
		homes := w.x.Homes()
		for at := range homes {
			kind, count := 1, int(next()%11)
			if next()%5 < 2 {
				kind, count = 2, int(next()%14)
			}
			if next()%40 == 0 {
				kind, count = int(next()%4), int(next()%256)
			}
			b := strangeNode(next, kind, count, homes)
			if at != 1 {
				w.x.Write(at, b)
			}
			if at%39 == 38 {
				w.commit()
			}
		}
		for root := range homes {
			w.wantEnd(uint32(root), api.ID(bytes.Repeat([]byte{byte(next() % 3)}, 32)))
			w.abort()
		}
	}
}

// A valid tree beside one that is not: asking the other one changes nothing.
func TestAskingWhatIsNotValid(t *testing.T) {
	w := plantWood(t, 600, 1)
	w.grow(orders(60)["mixed"]...)
	before := w.sight()
	for root := range uint32(500) {
		tree.Get(w.x, root, keyOf(3))
		tree.Scan(w.x, root, keyOf(3), 9)
		tree.Len(w.x, root)
		tree.Depth(w.x, root)
	}
	w.wantSight("what is not valid", before)
	w.check("what is not valid", 0)
}
