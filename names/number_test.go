package names_test

import (
	"math"
	"math/big"
	"strings"
	"testing"

	"coffer/api"
	"coffer/names"
)

const (
	greatest = "9223372036854775807" // 2^63 - 1
	least    = "-9223372036854775808"
)

func wantNumber(t *testing.T, s string, n int64, e api.Errno) {
	t.Helper()
	if got, gotE := names.Number(s); got != n || gotE != e {
		t.Errorf("P4.3: Number(%.80q): %d %d, not %d %d", s, got, gotE, n, e)
	}
}

func wantPrint(t *testing.T, n int64, s string) {
	t.Helper()
	if got := names.Print(n); got != s {
		t.Errorf("P4.3: Print(%d): %q, not %q", n, got, s)
	}
}

// wantBoth holds printing and parsing against each other; what is negative is printed and not parsed.
func wantBoth(t *testing.T, n int64, s string) {
	t.Helper()
	wantPrint(t, n, s)
	if n < 0 {
		wantNumber(t, s, 0, api.ErrSyntax)
	} else {
		wantNumber(t, s, n, api.OK)
	}
}

func TestNumberExamples(t *testing.T) {
	wantNumber(t, "07", 0, api.ErrSyntax)
	wantNumber(t, "9223372036854775808", 0, api.ErrLong)
}

func TestSmallNumbers(t *testing.T) {
	for n := int64(-2000); n <= 2000; n++ {
		wantBoth(t, n, big.NewInt(n).String())
	}
	for i, s := range []string{"0", "1", "2", "3", "4", "5", "6", "7", "8", "9", "10", "11"} {
		wantBoth(t, int64(i), s)
	}
	wantPrint(t, -1, "-1")
	wantPrint(t, -9, "-9")
	wantPrint(t, -10, "-10")
	wantPrint(t, -11, "-11")
}

func TestGreatNumbers(t *testing.T) {
	wantBoth(t, math.MaxInt64, greatest)
	wantBoth(t, math.MaxInt64-1, "9223372036854775806")
	wantBoth(t, math.MinInt64, least)
	wantBoth(t, math.MinInt64+1, "-9223372036854775807")
	wantBoth(t, 9223372036854775799, "9223372036854775799")
	wantBoth(t, 9223372036854775800, "9223372036854775800")
	wantBoth(t, 999999999999999999, "999999999999999999")
	wantBoth(t, 1000000000000000000, "1000000000000000000")
	wantBoth(t, 9000000000000000000, "9000000000000000000")
}

func TestNumbersAboutPowers(t *testing.T) {
	for _, base := range []int64{2, 10} {
		for n := int64(1); n <= math.MaxInt64/base; n *= base {
			for _, m := range []int64{base*n - 1, n, n + 1, -n, 1 - n, -n - 1} {
				wantBoth(t, m, big.NewInt(m).String())
			}
		}
	}
	next := numbers(5)
	for i := range 20000 {
		n := int64(next()) >> (i % 64)
		wantBoth(t, n, big.NewInt(n).String())
	}
}

// numberBySpec counts with numbers of any size.
func numberBySpec(s string) (int64, api.Errno) {
	n, ok := new(big.Int).SetString(s, 10)
	if !ok || n.String() != s || n.Sign() < 0 {
		return 0, api.ErrSyntax
	}
	if !n.IsInt64() {
		return 0, api.ErrLong
	}
	return n.Int64(), api.OK
}

func TestNumbersAboutTheGreatest(t *testing.T) {
	for _, shift := range []uint{62, 63, 64, 65, 66, 67, 68, 128} {
		middle := new(big.Int).Lsh(big.NewInt(1), shift)
		for _, factor := range []int64{1, 2, 3, 5, 7, 10} {
			for d := int64(-1200); d <= 1200; d++ {
				n := new(big.Int).Mul(middle, big.NewInt(factor))
				s := n.Add(n, big.NewInt(d)).String()
				want, e := numberBySpec(s)
				wantNumber(t, s, want, e)
			}
		}
	}
}

// Of each length, and with each digit in front: sums that wrap round come out positive for some of them.
func TestNumberOfManyDigits(t *testing.T) {
	for n := range 80 {
		for _, first := range "123456789" {
			for _, c := range "0123456789" {
				s := string(first) + strings.Repeat(string(c), n)
				want, e := numberBySpec(s)
				wantNumber(t, s, want, e)
			}
		}
	}
	for _, n := range []int{1000, 65536, 1 << 20} {
		for _, c := range "123456789" {
			wantNumber(t, strings.Repeat(string(c), n), 0, api.ErrLong)
		}
		wantNumber(t, "1"+strings.Repeat("0", n), 0, api.ErrLong)
	}
}

func TestNumberWithZerosInFront(t *testing.T) {
	for zeros := 1; zeros <= 70; zeros++ {
		front := strings.Repeat("0", zeros)
		for _, s := range []string{"0", "1", "7", "9", "10", "123", greatest, "9223372036854775808", "99999999999999999999"} {
			wantNumber(t, front+s, 0, api.ErrSyntax)
		}
	}
	wantNumber(t, "0", 0, api.OK)
	wantNumber(t, "00", 0, api.ErrSyntax)
	wantNumber(t, "10", 10, api.OK)
	wantNumber(t, "100", 100, api.OK)
}

func TestNumberOfEachByteAnywhere(t *testing.T) {
	for _, digits := range []string{"1", "12", "123", greatest, "9223372036854775808", strings.Repeat("9", 40)} {
		for at := range digits {
			for c := range 256 {
				s := []byte(digits)
				s[at] = byte(c)
				if !has("0123456789", byte(c)) {
					wantNumber(t, string(s), 0, api.ErrSyntax)
					wantNumber(t, digits[:at]+string(s[at:at+1])+digits[at:], 0, api.ErrSyntax)
				}
			}
		}
	}
	for c := range 256 {
		tail := string([]byte{byte(c)})
		if !has("0123456789", byte(c)) {
			wantNumber(t, tail, 0, api.ErrSyntax)
			wantNumber(t, "5"+tail, 0, api.ErrSyntax)
			wantNumber(t, "0"+tail, 0, api.ErrSyntax)
			// The syntax comes first even where the digits in front are too many.
			wantNumber(t, strings.Repeat("9", 30)+tail, 0, api.ErrSyntax)
			wantNumber(t, tail+strings.Repeat("9", 30), 0, api.ErrSyntax)
		}
	}
}

func TestNumberOfOtherForms(t *testing.T) {
	for _, s := range []string{
		"", "-", "+", "-0", "+0", "-1", "+1", "--1", "- 1", "-" + greatest, least, "-9223372036854775809", "+" + greatest,
		" ", " 1", "1 ", "1 0", "\t1", "1\n", "1\r\n", "1_0", "1,000", "1.0", ".1", "1.", "1e3", "1E3", "0x1", "0b1", "0o7", "a", "1a", "ff", "0a",
		"٣", "１", "1１", "½", "é", "\x00", "1\x00", "\xff", "1\xff", "Inf", "NaN", "nil",
	} {
		wantNumber(t, s, 0, api.ErrSyntax)
	}
}
