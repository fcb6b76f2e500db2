package pieces

import (
	"errors"
	"math"
	"strings"
	"testing"
)

func TestNumber(t *testing.T) {
	for s, want := range map[string]int{
		"0": 0, "7": 7, "-7": -7, "10": 10, "-2208988800": -2208988800,
		"9223372036854775807": math.MaxInt64, "-9223372036854775808": math.MinInt64,
	} {
		if n, err := Number(s, math.MinInt, math.MaxInt); n != want || err != nil {
			t.Errorf("Number(%q) = %d, %v", s, n, err)
		}
		if n, err := Number(s, want, want); n != want || err != nil {
			t.Errorf("Number(%q) within its own bounds = %d, %v", s, n, err)
		}
	}
}

func TestNumberWrong(t *testing.T) {
	for _, s := range []string{
		"", "-", "+", "+1", "-0", "00", "01", "-01", "--1", "1-", " 1", "1 ", "1\r", "1\x00", "x", "0x1", "1_0", "1.0", "1e1", "\u0661", "\xff",
		"9223372036854775808", "-9223372036854775809", "18446744073709551616", "09223372036854775807", strings.Repeat("9", 1000),
	} {
		if n, err := Number(s, math.MinInt, math.MaxInt); n != 0 || !errors.Is(err, ErrNumber) {
			t.Errorf("Number(%q) = %d, %v", s, n, err)
		}
	}
	for _, s := range []string{"-1", "5", "-9223372036854775808", "9223372036854775807"} {
		if n, err := Number(s, 0, 4); n != 0 || !errors.Is(err, ErrNumber) {
			t.Errorf("Number(%q) from 0 to 4 = %d, %v", s, n, err)
		}
	}
}
