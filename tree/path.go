package tree

import (
	"slices"

	"coffer/api"
	"coffer/space"
	"coffer/txn"
)

// step is a node and the number of its sector.
type step struct {
	*node
	at uint32
	k  int // on a path: the place of the key in a leaf, or which child is the next step
}

// path is the way from the root of a tree to a leaf. An empty tree has an empty one.
type path []step

// descend returns the way to the leaf that has key, or would have it, and whether it has.
func descend(t *txn.Tx, root uint32, key api.ID) (path, bool, api.Errno) {
	if isFinished(t) {
		return nil, false, api.ErrNone
	}
	if root == 0 {
		return nil, false, api.OK
	}
	// A way that goes on for longer than there are sectors goes round and round.
	var p path
	for at := root; len(p) < t.Homes(); {
		n, e := load(t, at)
		if e != api.OK {
			return nil, false, e
		}
		if n.leaf {
			k, found := n.find(key)
			return append(p, step{n, at, k}), found, api.OK
		}
		k := n.child(key)
		p = append(p, step{n, at, k})
		at = n.kids[k]
	}
	return nil, false, api.ErrRot
}

func (p path) leaf() step {
	return p[len(p)-1]
}

// storeGrown stores the leaf, split if it has a pair too many, and of the nodes above it those that change by that. It
// returns the root.
func (p path) storeGrown(t *txn.Tx) (uint32, api.Errno) {
	for i := len(p) - 1; ; i-- {
		s := p[i]
		if len(s.keys) <= s.most() {
			return p[0].at, s.store(t, s.at)
		}
		key, right := s.split(len(s.keys) / 2)
		at, e := plant(t, right)
		if e != api.OK {
			return 0, e
		}
		if e := s.store(t, s.at); e != api.OK {
			return 0, e
		}
		if i == 0 {
			return plant(t, &node{keys: []api.ID{key}, kids: []uint32{s.at, at}})
		}
		up := p[i-1]
		up.keys = slices.Insert(up.keys, up.k, key)
		up.kids = slices.Insert(up.kids, up.k+1, at)
	}
}

// storeShrunk stores the leaf, mended if it has a pair too few, and of the nodes above it those that change by that. It
// returns the root.
func (p path) storeShrunk(t *txn.Tx) (uint32, api.Errno) {
	for i := len(p) - 1; i > 0; i-- {
		s := p[i]
		if len(s.keys) >= s.least() {
			return p[0].at, s.store(t, s.at)
		}
		if e := p[i-1].mend(t, s); e != api.OK {
			return 0, e
		}
	}
	return p[0].storeRoot(t)
}

// storeRoot stores s unless no key is left in it: then what is below it, if anything is, is the tree.
func (s step) storeRoot(t *txn.Tx) (uint32, api.Errno) {
	if len(s.keys) > 0 {
		return s.at, s.store(t, s.at)
	}
	if e := space.Free(t, int(s.at), 1); e != api.OK {
		return 0, e
	}
	if s.leaf {
		return 0, api.OK
	}
	return s.kids[0], api.OK
}

// mend gives s, the next step behind up, which has a key too few, one of a neighbour that can spare it, or else joins s
// with a neighbour. It stores what is below up, but not up.
func (up step) mend(t *txn.Tx, s step) api.Errno {
	left, e := up.beside(t, s, up.k-1)
	if e != api.OK {
		return e
	}
	if left.canSpare() {
		return up.share(t, up.k-1, left, s, len(left.keys)-1)
	}
	right, e := up.beside(t, s, up.k+1)
	if e != api.OK {
		return e
	}
	if right.canSpare() {
		return up.share(t, up.k, s, right, len(s.keys)+1)
	}
	if left.node != nil {
		return up.unite(t, up.k-1, left, s)
	}
	return up.unite(t, up.k, s, right)
}

// beside returns the k-th child of up, a neighbour of s. It has no node if there is no such child.
func (up step) beside(t *txn.Tx, s step, k int) (step, api.Errno) {
	if k < 0 || k >= len(up.kids) {
		return step{}, api.OK
	}
	n, e := load(t, up.kids[k])
	if e != api.OK {
		return step{}, e
	}
	if n.leaf != s.leaf {
		return step{}, api.ErrRot
	}
	return step{node: n, at: up.kids[k]}, api.OK
}

func (s step) canSpare() bool {
	return s.node != nil && len(s.keys) > s.least()
}

// share leaves left the first m of the keys of left and right, which the k-th key of up parts, and gives right the others.
func (up step) share(t *txn.Tx, k int, left, right step, m int) api.Errno {
	left.join(up.keys[k], right.node)
	up.keys[k], right.node = left.split(m)
	if e := left.store(t, left.at); e != api.OK {
		return e
	}
	return right.store(t, right.at)
}

// unite moves all that is in right to left, which the k-th key of up parts.
func (up step) unite(t *txn.Tx, k int, left, right step) api.Errno {
	left.join(up.keys[k], right.node)
	up.keys = slices.Delete(up.keys, k, k+1)
	up.kids = slices.Delete(up.kids, k+1, k+2)
	if e := space.Free(t, int(right.at), 1); e != api.OK {
		return e
	}
	return left.store(t, left.at)
}
