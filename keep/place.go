package keep

import "coffer/api"

// fieldSize is how many bytes of a value a number of a place has.
const fieldSize = 4

// valOf is what the index has of the place p.
func valOf(p api.Place) api.Val {
	var v api.Val
	for k, n := range [...]int{p.Pack, p.At, p.Len} {
		b := field(uint32(n))
		copy(v[fieldSize*k:], b[:])
	}
	return v
}

// placeOf is the place of which the index has v.
func placeOf(v api.Val) api.Place {
	return api.Place{Pack: number(v, 0), At: number(v, 1), Len: number(v, 2)}
}

func field(n uint32) [fieldSize]byte {
	return [fieldSize]byte{byte(n >> 24), byte(n >> 16), byte(n >> 8), byte(n)}
}

func number(v api.Val, k int) int {
	b := [fieldSize]byte(v[fieldSize*k:])
	return int(uint32(b[0])<<24 | uint32(b[1])<<16 | uint32(b[2])<<8 | uint32(b[3]))
}
