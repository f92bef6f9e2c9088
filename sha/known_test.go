package sha_test

import (
	"bytes"
	"encoding/hex"
	"strings"
	"testing"

	"coffer/api"
	"coffer/sha"
)

// known is a sum that is printed in FIPS 180-4's examples, in NIST's test vectors or in the chapter.
type known struct {
	data []byte
	sum  string
}

func knownSums() []known {
	long := "abcdefghbcdefghicdefghijdefghijkefghijklfghijklmghijklmnhijklmnoijklmnopjklmnopqklmnopqrlmnopqrsmnopqrstnopqrstu"
	return []known{
		{nil, "e3b0c44298fc1c149afbf4c8996fb92427ae41e4649b934ca495991b7852b855"},
		{[]byte("abc"), "ba7816bf8f01cfea414140de5dae2223b00361a396177a9cb410ff61f20015ad"},
		{[]byte("abcdbcdecdefdefgefghfghighijhijkijkljklmklmnlmnomnopnopq"), "248d6a61d20638b8e5c026930c3e6039a33ce45964ff2167f6ecedd419db06c1"},
		{[]byte(long), "cf5b16a778af8380036ce59e7b0492370b249b11e8f07a51afac45037afee9d1"},
		{bytes.Repeat([]byte("a"), 1000000), "cdc76e5c9914fb9281a1c7e284d73e67f1809a48a497200e046d39ccc7112cd0"},
		{[]byte{0xbd}, "68325720aabd7c82f30f554b313d0570c95accbb7dc4b5aae11204c08ffe732b"},
		{[]byte{0xc9, 0x8c, 0x8e, 0x55}, "7abc22c0ae5af26ce93dbb94433a0e0b2e119d014f8e7f65bd56c61ccccd9504"},
		{make([]byte, 55), "02779466cdec163811d078815c633f21901413081449002f24aa3e80f0b88ef7"},
		{make([]byte, 56), "d4817aa5497628e7c77e6b606107042bbba3130888c5f47a375e6179be789fbb"},
		{make([]byte, 57), "65a16cb7861335d5ace3c60718b5052e44660726da4cd13bb745381b235a1785"},
		{make([]byte, 64), "f5a5fd42d16a20302798ef6ed309979b43003d2320d9f0e8ea9831a92759fb4b"},
		{make([]byte, 1000), "541b3e9daa09b20bf85fa273e5cbd3e80185aa4ec298e765db87742b70138a53"},
		{bytes.Repeat([]byte("A"), 1000), "c2e686823489ced2017f6059b8b239318b6364f6dcd835d0a519105a1eadd6e4"},
		{bytes.Repeat([]byte("U"), 1005), "f4d62ddec0f3dd90ea1380fa16a5ff8dc4c54b21740650f24afc4120903552b0"},
	}
}

func TestKnownSums(t *testing.T) {
	for _, k := range knownSums() {
		h := sha.New()
		h.Write(k.data)
		if got := hexOf(h.Sum()); got != k.sum {
			t.Errorf("P2.1: %d bytes: %s, not %s", len(k.data), got, k.sum)
		}
		if got := hexOf(sha.Of(k.data)); got != k.sum {
			t.Errorf("P2.2: %d bytes: %s, not %s", len(k.data), got, k.sum)
		}
	}
}

func hexOf(id api.ID) string {
	return hex.EncodeToString(id[:])
}

func TestChapterExamples(t *testing.T) {
	if got := hexOf(sha.Of()); got != "e3b0c44298fc1c149afbf4c8996fb92427ae41e4649b934ca495991b7852b855" {
		t.Errorf("P2.2: Of(): %s", got)
	}
	if got := hexOf(sha.Of([]byte{97}, []byte{98, 99})); !strings.HasPrefix(got, "ba7816bf") {
		t.Errorf("P2.2: Of({97}, {98, 99}): %s", got)
	}
}
