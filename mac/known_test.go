package mac_test

import (
	"bytes"
	"encoding/hex"
	"strings"
	"testing"

	"coffer/api"
	"coffer/mac"
)

// known is a code that is printed in RFC 4231 or in the chapter; of one that is cut short there, it has the beginning.
type known struct {
	key, b []byte
	code   string
}

func repeated(c byte, n int) []byte {
	return bytes.Repeat([]byte{c}, n)
}

func knownCodes() []known {
	risingKey := make([]byte, 25)
	for i := range risingKey {
		risingKey[i] = byte(i + 1)
	}
	longData := "This is a test using a larger than block-size key and a larger than block-size data. The key needs to be hashed before being used by the HMAC algorithm."
	return []known{
		{repeated(0x0b, 20), []byte("Hi There"), "b0344c61"},
		{repeated(0x0b, 20), []byte("Hi There"), "b0344c61d8db38535ca8afceaf0bf12b881dc200c9833da726e9376c2e32cff7"},
		{[]byte("Jefe"), []byte("what do ya want for nothing?"), "5bdcc146bf60754e6a042426089575c75a003f089d2739839dec58b964ec3843"},
		{repeated(0xaa, 20), repeated(0xdd, 50), "773ea91e36800e46854db8ebd09181a72959098b3ef8c122d9635514ced565fe"},
		{risingKey, repeated(0xcd, 50), "82558a389a443c0ea4cc819899f2083a85f0faa3e578f8077a2e3ff46729665b"},
		{repeated(0x0c, 20), []byte("Test With Truncation"), "a3b6167473100ee06e0c796c2955552b"},
		{repeated(0xaa, 131), []byte("Test Using Larger Than Block-Size Key - Hash Key First"), "60e431591ee0b67f0d8a26aacbf5b77f8e0bc6213728c5140546040f0ee37f54"},
		{repeated(0xaa, 131), []byte(longData), "9b09ffa71b942fcb27635fbcd5b0e944bfdc63644f0713938a7f51535c3a35e2"},
		{nil, nil, "b613679a0814d9ec772f95d778c35fc5ff1697c493715653c6c712144292c5ad"},
		{[]byte("key"), []byte("The quick brown fox jumps over the lazy dog"), "f7bc83f430538424b13298e6aa6fb143ef4d59a14946175997479dbc2d1a3cd8"},
	}
}

func TestKnownCodes(t *testing.T) {
	for i, k := range knownCodes() {
		if got := hexOf(mac.Raw(k.key, k.b)); !strings.HasPrefix(got, k.code) {
			t.Errorf("P3.1: %d: %s, not %s", i, got, k.code)
		}
	}
}

func hexOf(id api.ID) string {
	return hex.EncodeToString(id[:])
}
