package rights_test

import (
	"math/big"
	"strconv"
	"strings"
	"testing"

	"coffer/api"
	"coffer/rights"
)

// forms are all texts that may be parsed.
func forms() map[string]api.Rights {
	return map[string]api.Rights{
		"read": 1, "add": 3, "full": 7, "rule": 15,
		"0": 0, "1": 1, "2": 2, "3": 3, "4": 4, "5": 5, "6": 6, "7": 7,
		"8": 8, "9": 9, "10": 10, "11": 11, "12": 12, "13": 13, "14": 14, "15": 15,
	}
}

// wantParse asks for what forms has of s, and for ErrSyntax if it has none.
func wantParse(t *testing.T, all map[string]api.Rights, s string) {
	t.Helper()
	want, ok := all[s]
	wantE := api.ErrSyntax
	if ok {
		wantE = api.OK
	}
	if r, e := rights.Parse(s); r != want || e != wantE {
		t.Errorf("P13.2: Parse(%.80q): %d %d, not %d %d", s, r, e, want, wantE)
	}
}

func wantNone(t *testing.T, s string) {
	t.Helper()
	if r, e := rights.Parse(s); r != 0 || e != api.ErrSyntax {
		t.Errorf("P13.2: Parse(%.80q): %d %d, not 0 and ErrSyntax", s, r, e)
	}
}

func TestParseExamples(t *testing.T) {
	if r, e := rights.Parse("rule"); r != 15 || e != api.OK {
		t.Errorf("P13.2: Parse(rule): %d %d", r, e)
	}
	wantNone(t, "16")
	wantNone(t, "07")
}

func TestParseOfEachForm(t *testing.T) {
	for s, want := range forms() {
		if r, e := rights.Parse(s); r != want || e != api.OK {
			t.Errorf("P13.2: Parse(%q): %d %d, not %d", s, r, e, want)
		}
	}
}

func TestParseOfNothing(t *testing.T) {
	wantNone(t, "")
}

// Each form with one byte changed, one more anywhere, one less anywhere, and cut off at both ends.
func TestParseAroundEachForm(t *testing.T) {
	all := forms()
	for s := range all {
		for at := 0; at <= len(s); at++ {
			wantParse(t, all, s[:at])
			wantParse(t, all, s[at:])
			for c := range 256 {
				more := string([]byte{byte(c)})
				wantParse(t, all, s[:at]+more+s[at:])
				if at < len(s) {
					wantParse(t, all, s[:at]+more+s[at+1:])
				}
			}
			if at < len(s) {
				wantParse(t, all, s[:at]+s[at+1:])
			}
		}
	}
}

func TestParseOfAllShortTexts(t *testing.T) {
	all := forms()
	for c := range 256 {
		wantParse(t, all, string([]byte{byte(c)}))
		for d := range 256 {
			wantParse(t, all, string([]byte{byte(c), byte(d)}))
		}
	}
}

func eachText(letters string, n int, f func(string)) {
	if n == 0 {
		f("")
		return
	}
	for i := range len(letters) {
		eachText(letters, n-1, func(s string) { f(letters[i:i+1] + s) })
	}
}

func TestParseOfTextsOfItsLetters(t *testing.T) {
	all := forms()
	found := 0
	for n := range 6 {
		eachText("readful01", n, func(s string) {
			wantParse(t, all, s)
			if _, ok := all[s]; ok {
				found++
			}
		})
	}
	if found != 4+4 { // the words, and 0, 1, 10 and 11
		t.Errorf("of the forms %d were parsed", found)
	}
}

func TestParseOfOtherCases(t *testing.T) {
	for _, word := range []string{"read", "add", "full", "rule"} {
		for mask := 1; mask < 1<<len(word); mask++ {
			s := []byte(word)
			for i := range s {
				if mask>>i&1 == 1 {
					s[i] -= 'a' - 'A'
				}
			}
			wantNone(t, string(s))
		}
	}
	for _, s := range []string{"READ", "Read", "reaD", "ADD", "Add", "FULL", "Full", "RULE", "Rule"} {
		wantNone(t, s)
	}
}

func TestParseOfOtherWords(t *testing.T) {
	for _, s := range []string{
		"reader", "adder", "ruler", "drop", "admin", "none", "all", "nil", "reads", "adds", "fully", "rules",
		"readadd", "read add", "read,add", "read|add", "1|2", "1,2", "readread", "read1", "1read", "full7", "add\x00", "\x00add",
		"réad", "ｒｅａｄ", "fuIl", "ru1e", "r", "re", "rea", "ead", "a", "ad", "dd", "f", "fu", "ful", "ull", "ru", "rul", "ule",
	} {
		wantNone(t, s)
	}
}

func TestParseWithLeadingZeros(t *testing.T) {
	for n := range 20 {
		for zeros := 1; zeros <= 70; zeros++ {
			wantNone(t, strings.Repeat("0", zeros)+strconv.Itoa(n))
		}
	}
	wantNone(t, "00")
	wantNone(t, "01")
	wantNone(t, "015")
	wantNone(t, "0read")
}

func TestParseWithSigns(t *testing.T) {
	for s := range forms() {
		for _, sign := range []string{"+", "-", "--", "+-", "- ", "−"} {
			wantNone(t, sign+s)
			wantNone(t, s+sign)
		}
	}
	wantNone(t, "-")
	wantNone(t, "+")
}

func TestParseWithBlanks(t *testing.T) {
	for _, blank := range []string{" ", "\t", "\n", "\r\n", "\v", "\f", "\u00a0", "\u2003", "\ufeff", "  "} {
		wantNone(t, blank)
		for s := range forms() {
			wantNone(t, blank+s)
			wantNone(t, s+blank)
			wantNone(t, blank+s+blank)
			wantNone(t, s[:1]+blank+s[1:])
		}
	}
}

func TestParseOfOtherNumbers(t *testing.T) {
	for _, s := range []string{
		"16", "17", "99", "100", "150", "255", "256", "1_0", "0_1", "1.0", "1.", ".1", "1e0", "1e1", "0x1", "0xf", "0X1", "0b1", "0o7", "1,0",
		"a", "f", "F", "0a", "1a", "NaN", "Inf", "true", "٣", "１", "1５", "½", "²", "Ⅷ",
	} {
		wantNone(t, s)
	}
	for n := 16; n <= 70000; n++ {
		wantNone(t, strconv.Itoa(n))
	}
	for n := 1; n <= 70000; n++ {
		wantNone(t, strconv.Itoa(-n))
	}
}

// Numbers that are small ones in 8, 16, 32, 64 or more bits.
func TestParseOfNumbersThatWrapRound(t *testing.T) {
	for _, shift := range []uint{8, 15, 16, 31, 32, 53, 63, 64, 65, 128} {
		for _, factor := range []int64{1, 2, 3, -1} {
			for d := int64(-16); d <= 16; d++ {
				n := new(big.Int).Lsh(big.NewInt(factor), shift)
				wantNone(t, n.Add(n, big.NewInt(d)).String())
			}
		}
	}
}

func TestParseOfVeryManyBytes(t *testing.T) {
	for _, n := range []int{10, 19, 20, 21, 100, 1000, 65536, 1 << 20} {
		for _, c := range []string{"0", "1", "9", "-", " ", "r", "read", "\x00", "\xff"} {
			long := strings.Repeat(c, n)
			wantNone(t, long)
			for _, s := range []string{"0", "7", "15", "read", "rule"} {
				wantNone(t, long+s)
				wantNone(t, s+long)
			}
		}
	}
}
