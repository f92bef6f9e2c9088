package keep

import (
	"coffer/api"
	"coffer/pack"
	"coffer/txn"
)

// Compact moves one record out of the sparse pack of the least number into another pack, and reports whether it did.
func Compact(t *txn.Tx) (bool, api.Errno) {
	n, found, e := sparse(t)
	if e != api.OK || !found {
		return false, e
	}
	x, e := load(t)
	if e != api.OK {
		return false, e
	}
	key, p, found, e := x.firstLive(n)
	if e != api.OK || !found {
		return false, e
	}
	return x.move(key, p)
}

// sparse returns the least number of a pack in which less than half of the bytes in use are live, and false if there is
// none.
func sparse(t *txn.Tx) (int, bool, api.Errno) {
	for n := range api.MaxPacks {
		used, live, e := pack.Stat(t, n)
		// That there is no such pack.
		if e == api.ErrArg {
			continue
		}
		if e != api.OK {
			return 0, false, e
		}
		if 2*live < used {
			return n, true, api.OK
		}
	}
	return 0, false, api.OK
}

// firstLive returns the key and the place of the first frame of pack n that is a record's, and false if there is none. A
// frame may have the key of a record without being it: what was set before stays in its pack.
func (x index) firstLive(n int) (api.ID, api.Place, bool, api.Errno) {
	l, e := pack.List(x.t, n)
	if e != api.OK {
		return api.ID{}, api.Place{}, false, e
	}
	for _, f := range l {
		p := api.Place{Pack: n, At: f.At, Len: f.Len}
		at, found, e := x.find(f.Key)
		if e != api.OK {
			return api.ID{}, api.Place{}, false, e
		}
		if found && at == p {
			return f.Key, p, true, api.OK
		}
	}
	return api.ID{}, api.Place{}, false, api.OK
}

// move moves the record of key from its place p into another pack, and reports whether one has room for it.
func (x index) move(key api.ID, p api.Place) (bool, api.Errno) {
	b, e := pack.Get(x.t, p, key)
	if e != api.OK {
		return false, e
	}
	moved := true
	e = change(x.t, func() api.Errno {
		q, e := pack.AddBut(x.t, key, b, p.Pack)
		if e == api.ErrFull {
			moved = false
			return api.OK
		}
		if e != api.OK {
			return e
		}
		if e := x.put(key, q); e != api.OK {
			return e
		}
		return pack.Drop(x.t, p)
	})
	return moved && e == api.OK, e
}
