package sha

import "coffer/api"

const (
	byteBits   = 8
	wordBits   = 32
	wordSize   = wordBits / byteBits
	blockSize  = 64 // bytes
	blockWords = blockSize / wordSize
	stateWords = 8
	rounds     = 64
)

type (
	block [blockSize]byte
	state [stateWords]uint32
	words [rounds]uint32
)

// firstState has the first 32 bits of the fractions of the square roots of the first 8 primes.
func firstState() state {
	return state{
		0x6a09e667, 0xbb67ae85, 0x3c6ef372, 0xa54ff53a, 0x510e527f, 0x9b05688c, 0x1f83d9ab, 0x5be0cd19,
	}
}

// roundConstants has the first 32 bits of the fractions of the cube roots of the first 64 primes.
func roundConstants() words {
	return words{
		0x428a2f98, 0x71374491, 0xb5c0fbcf, 0xe9b5dba5, 0x3956c25b, 0x59f111f1, 0x923f82a4, 0xab1c5ed5,
		0xd807aa98, 0x12835b01, 0x243185be, 0x550c7dc3, 0x72be5d74, 0x80deb1fe, 0x9bdc06a7, 0xc19bf174,
		0xe49b69c1, 0xefbe4786, 0x0fc19dc6, 0x240ca1cc, 0x2de92c6f, 0x4a7484aa, 0x5cb0a9dc, 0x76f988da,
		0x983e5152, 0xa831c66d, 0xb00327c8, 0xbf597fc7, 0xc6e00bf3, 0xd5a79147, 0x06ca6351, 0x14292967,
		0x27b70a85, 0x2e1b2138, 0x4d2c6dfc, 0x53380d13, 0x650a7354, 0x766a0abb, 0x81c2c92e, 0x92722c85,
		0xa2bfe8a1, 0xa81a664b, 0xc24b8b70, 0xc76c51a3, 0xd192e819, 0xd6990624, 0xf40e3585, 0x106aa070,
		0x19a4c116, 0x1e376c08, 0x2748774c, 0x34b0bcb5, 0x391c0cb3, 0x4ed8aa4a, 0x5b9cca4f, 0x682e6ff3,
		0x748f82ee, 0x78a5636f, 0x84c87814, 0x8cc70208, 0x90befffa, 0xa4506ceb, 0xbef9a3f7, 0xc67178f2,
	}
}

// mix returns the state that follows s when block x is hashed. The letters are those of FIPS 180-4; sums, here and in schedule, are taken modulo 2^32.
func mix(s state, x block) state {
	constants := roundConstants()
	a, b, c, d, e, f, g, h := s[0], s[1], s[2], s[3], s[4], s[5], s[6], s[7]
	for i, word := range schedule(x) {
		t1 := h + upperSigma1(e) + choose(e, f, g) + constants[i] + word
		t2 := upperSigma0(a) + majority(a, b, c)
		a, b, c, d, e, f, g, h = t1+t2, a, b, c, d+t1, e, f, g
	}
	return state{s[0] + a, s[1] + b, s[2] + c, s[3] + d, s[4] + e, s[5] + f, s[6] + g, s[7] + h}
}

// schedule returns the words that the rounds mix in: those of the block, and what follows from them.
func schedule(x block) words {
	var w words
	for i := range blockWords {
		w[i] = wordAt(x, wordSize*i)
	}
	for i := blockWords; i < rounds; i++ {
		w[i] = w[i-16] + lowerSigma0(w[i-15]) + w[i-7] + lowerSigma1(w[i-2])
	}
	return w
}

func wordAt(x block, at int) uint32 {
	return uint32(x[at])<<24 | uint32(x[at+1])<<16 | uint32(x[at+2])<<8 | uint32(x[at+3])
}

func stateBytes(s state) api.ID {
	var id api.ID
	for i := range id {
		id[i] = byte(s[i/wordSize] >> (wordBits - byteBits - byteBits*(i%wordSize)))
	}
	return id
}

func rotateRight(x uint32, n int) uint32 {
	return x>>n | x<<(wordBits-n)
}

func upperSigma0(x uint32) uint32 {
	return rotateRight(x, 2) ^ rotateRight(x, 13) ^ rotateRight(x, 22)
}

func upperSigma1(x uint32) uint32 {
	return rotateRight(x, 6) ^ rotateRight(x, 11) ^ rotateRight(x, 25)
}

func lowerSigma0(x uint32) uint32 {
	return rotateRight(x, 7) ^ rotateRight(x, 18) ^ x>>3
}

func lowerSigma1(x uint32) uint32 {
	return rotateRight(x, 17) ^ rotateRight(x, 19) ^ x>>10
}

// choose takes the bits of yes where those of x are set, and the bits of no elsewhere.
func choose(x, yes, no uint32) uint32 {
	return x&yes ^ ^x&no
}

// majority sets each bit that is set in two or all of x, y and z.
func majority(x, y, z uint32) uint32 {
	return x&y ^ x&z ^ y&z
}
