package tree

import (
	"cmp"
	"slices"

	"coffer/api"
	"coffer/octet"
	"coffer/space"
	"coffer/txn"
)

const (
	leafMark  = 1 // byte 0 of a leaf
	innerMark = 2 // byte 0 of an inner node
	headSize  = 8 // bytes ahead of the first pair, or of the first child
	keySize   = 32
	valSize   = 16
	kidSize   = 4 // bytes of a child's number
	pairSize  = keySize + valSize
	forkSize  = keySize + kidSize
)

// node has a value for each key if it is a leaf, and otherwise a child ahead of each key and one behind the last.
type node struct {
	leaf bool
	keys []api.ID
	vals []api.Val
	kids []uint32
}

func load(t *txn.Tx, at uint32) (*node, api.Errno) {
	b, e := t.Read(int(at))
	if e != api.OK {
		return nil, e
	}
	return parse(b)
}

// parse refuses what could lead out of the sector, since anything may be at a root that is not valid.
func parse(b []byte) (*node, api.Errno) {
	n := &node{leaf: b[0] == leafMark}
	count := int(b[1])
	if !n.leaf && b[0] != innerMark || count < 1 || count > n.most() {
		return nil, api.ErrRot
	}
	if n.leaf {
		n.parsePairs(b, count)
	} else {
		n.parseForks(b, count)
	}
	return n, api.OK
}

func (n *node) parsePairs(b []byte, count int) {
	for k := range count {
		at := headSize + pairSize*k
		n.keys = append(n.keys, api.ID(b[at:at+keySize]))
		n.vals = append(n.vals, api.Val(b[at+keySize:at+pairSize]))
	}
}

func (n *node) parseForks(b []byte, count int) {
	n.kids = append(n.kids, kidAt(b, headSize))
	for k := range count {
		at := headSize + kidSize + forkSize*k
		n.keys = append(n.keys, api.ID(b[at:at+keySize]))
		n.kids = append(n.kids, kidAt(b, at+keySize))
	}
}

// kidAt is for offsets within a sector, of which At tells no error.
func kidAt(b []byte, at int) uint32 {
	v, _ := octet.At(b, at, kidSize)
	return uint32(v)
}

func (n *node) store(t *txn.Tx, at uint32) api.Errno {
	return t.Write(int(at), n.bytes())
}

func (n *node) bytes() []byte {
	b := make([]byte, headSize, api.Sector)
	b[0], b[1] = innerMark, byte(len(n.keys))
	if n.leaf {
		b[0] = leafMark
	} else {
		b = appendKid(b, n.kids[0])
	}
	for k, key := range n.keys {
		b = append(b, key[:]...)
		if n.leaf {
			b = append(b, n.vals[k][:]...)
		} else {
			b = appendKid(b, n.kids[k+1])
		}
	}
	return append(b, make([]byte, api.Sector-len(b))...)
}

// appendKid need not ask for an error: each number of 32 bits fits.
func appendKid(b []byte, v uint32) []byte {
	kid, _ := octet.Put(nil, uint64(v), kidSize)
	return append(b, kid...)
}

// plant stores n in a sector that is allocated for it, and returns the sector's number.
func plant(t *txn.Tx, n *node) (uint32, api.Errno) {
	at, e := space.Take(t, 1)
	if e != api.OK {
		return 0, e
	}
	return uint32(at), n.store(t, uint32(at))
}

// most is the number of keys that n may have.
func (n *node) most() int {
	if n.leaf {
		return api.Leaf
	}
	return api.Inner
}

// least is the number of keys that n must have if it is not the root.
func (n *node) least() int {
	return n.most() / 2
}

// find returns the place of key among the keys of n, or the place where it would be, and whether it is there.
func (n *node) find(key api.ID) (int, bool) {
	return slices.BinarySearchFunc(n.keys, key, compare)
}

// child returns which of the children of n has key below it, if any has.
func (n *node) child(key api.ID) int {
	k, found := n.find(key)
	if found {
		k++
	}
	return k
}

func compare(a, b api.ID) int {
	for i := range a {
		if a[i] != b[i] {
			return cmp.Compare(a[i], b[i])
		}
	}
	return 0
}

// split leaves n its first m keys, and returns a node of the others, and the key that parts the two.
func (n *node) split(m int) (api.ID, *node) {
	key, right := n.keys[m], &node{leaf: n.leaf}
	if n.leaf {
		right.keys, right.vals = slices.Clone(n.keys[m:]), slices.Clone(n.vals[m:])
		n.vals = n.vals[:m]
	} else {
		// What parts two inner nodes stands above them alone.
		right.keys, right.kids = slices.Clone(n.keys[m+1:]), slices.Clone(n.kids[m+1:])
		n.kids = n.kids[:m+1]
	}
	n.keys = n.keys[:m]
	return key, right
}

// join moves all that is in right, which key parts from n, to n.
func (n *node) join(key api.ID, right *node) {
	if !n.leaf {
		n.keys = append(n.keys, key)
	}
	n.keys = append(n.keys, right.keys...)
	n.vals = append(n.vals, right.vals...)
	n.kids = append(n.kids, right.kids...)
}
