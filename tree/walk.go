package tree

import (
	"coffer/api"
	"coffer/txn"
)

type walk struct {
	t    *txn.Tx
	from api.ID
	room int // how many nodes may still be read: no tree has more than there are sectors
	do   func(leaf *node) bool
}

// leaves hands the leaves of a tree to do, in ascending order from the one on that has from, or would have it, as long as
// do answers true.
func leaves(t *txn.Tx, root uint32, from api.ID, do func(leaf *node) bool) api.Errno {
	if isFinished(t) {
		return api.ErrNone
	}
	if root == 0 {
		return api.OK
	}
	w := &walk{t, from, t.Homes(), do}
	_, e := w.below(root)
	return e
}

// below goes over the leaves below one node, and reports whether more are wanted.
func (w *walk) below(at uint32) (bool, api.Errno) {
	if w.room == 0 {
		return false, api.ErrRot
	}
	w.room--
	n, e := load(w.t, at)
	if e != api.OK {
		return false, e
	}
	if n.leaf {
		return w.do(n), api.OK
	}
	for _, kid := range n.kids[n.child(w.from):] {
		if more, e := w.below(kid); !more {
			return false, e
		}
	}
	return true, api.OK
}
