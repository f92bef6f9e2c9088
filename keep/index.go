package keep

import (
	"coffer/api"
	"coffer/space"
	"coffer/tree"
	"coffer/txn"
)

// rootAt is the root of space that is the index's.
const rootAt = 0

// index is the tree that has the places of the records by their keys.
type index struct {
	t    *txn.Tx
	root uint32
}

// load fails if t is finished: what is asked of the index behind it can rely on that t is not.
func load(t *txn.Tx) (index, api.Errno) {
	root, e := space.Root(t, rootAt)
	return index{t, root}, e
}

// get returns the place of the record of key, or ErrNone if there is none.
func (x index) get(key api.ID) (api.Place, api.Errno) {
	v, e := tree.Get(x.t, x.root, key)
	if e != api.OK {
		return api.Place{}, e
	}
	return placeOf(v), api.OK
}

// find returns the place of the record of key, and false if there is none.
func (x index) find(key api.ID) (api.Place, bool, api.Errno) {
	p, e := x.get(key)
	if e == api.ErrNone {
		return api.Place{}, false, api.OK
	}
	return p, e == api.OK, e
}

func (x index) scan(from api.ID, most int) ([]api.Pair, api.Errno) {
	return tree.Scan(x.t, x.root, from, most)
}

func (x index) len() (int, api.Errno) {
	return tree.Len(x.t, x.root)
}

// put makes p the place of the record of key. What fails may have been done in part.
func (x index) put(key api.ID, p api.Place) api.Errno {
	root, e := tree.Put(x.t, x.root, key, valOf(p))
	if e != api.OK {
		return e
	}
	return x.store(root)
}

// drop takes key out. What fails may have been done in part.
func (x index) drop(key api.ID) api.Errno {
	root, e := tree.Drop(x.t, x.root, key)
	if e != api.OK {
		return e
	}
	return x.store(root)
}

// store writes nothing if the root is what it was: a transaction has room for a few sectors only.
func (x index) store(root uint32) api.Errno {
	if root == x.root {
		return api.OK
	}
	return space.SetRoot(x.t, rootAt, root)
}
