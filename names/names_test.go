package names_test

import (
	"math"
	"strings"
	"testing"

	"solenoid/names"
)

const (
	letters = "abcdefghijklmnopqrstuvwxyz"
	digits  = "0123456789"
)

// plain asks Plain for an answer.
func plain(t *testing.T, s string, most int, want bool) {
	t.Helper()
	if got := names.Plain(s, most); got != want {
		t.Errorf("Plain(%.50q, %d): %v", s, most, got)
	}
}

// TestW2EachSign asks for each byte, as the first one and as a later one.
func TestW2EachSign(t *testing.T) {
	for b := range 256 {
		sign := string([]byte{byte(b)})
		first := strings.Contains(letters, sign)
		later := first || strings.Contains(digits, sign)
		plain(t, sign, 8, first)
		plain(t, sign+"a", 8, first)
		plain(t, "a"+sign, 8, later)
		plain(t, "abc"+sign+"def", 8, later)
		plain(t, "abcdefg"+sign, 8, later)
	}
}

func TestW2HowLong(t *testing.T) {
	for most := range 20 {
		for n := range 25 {
			plain(t, strings.Repeat("a", n), most, 1 <= n && n <= most)
			plain(t, strings.Repeat("1", n), most, false)
		}
	}
	plain(t, strings.Repeat("a", 100000), 12, false)
	plain(t, "a", math.MaxInt, true)
	for _, most := range []int{0, -1, math.MinInt} {
		plain(t, "", most, false)
		plain(t, "a", most, false)
	}
}

func TestW2NoNames(t *testing.T) {
	for _, s := range []string{"", " ", "a b", " a", "a ", "a.b", "a[1]", "a_b", "aB", "IN", "T0", "a\n", "\u00e4", "a\u00e4", "a\u0661", "\uff41", "a\xff"} {
		plain(t, s, 12, false)
	}
}
