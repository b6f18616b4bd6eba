package checks_test

import (
	"remit/api"
	"remit/checks"
	"strings"
	"testing"
)

func TestSums(t *testing.T) {
	for _, x := range []struct {
		s    string
		want uint32
	}{
		{"", 0},
		{"123456789", 0xE3069283},
		{"a", 0xC1D04330},
		{"\x00", 0x527D5351},
		{"\xff", 0xFF000000},
		// The four texts of 32 bytes that RFC 3720 tells the sums of.
		{strings.Repeat("\x00", 32), 0x8A9136AA},
		{strings.Repeat("\xff", 32), 0x62A8AB43},
		{rising(), 0x46DD794E},
		{falling(), 0x113FDB5C},
	} {
		if got := checks.Sum(x.s); got != x.want {
			t.Errorf("Sum(% x): %08X, want %08X", x.s, got, x.want)
		}
		for cut := range len(x.s) + 1 {
			if got := checks.Extend(checks.Sum(x.s[:cut]), x.s[cut:]); got != x.want {
				t.Errorf("Extend over % x, cut at %d: %08X, want %08X", x.s, cut, got, x.want)
			}
		}
	}
}

func rising() string {
	var raw [32]byte
	for i := range raw {
		raw[i] = byte(i)
	}
	return string(raw[:])
}

func falling() string {
	var raw [32]byte
	for i := range raw {
		raw[i] = byte(31 - i)
	}
	return string(raw[:])
}

func TestExtendByNothing(t *testing.T) {
	for _, sum := range []uint32{0, 1, 0x82F63B78, 1 << 31, 0xFFFFFFFF} {
		if got := checks.Extend(sum, ""); got != sum {
			t.Errorf("Extend(%08X, nothing): %08X", sum, got)
		}
	}
}

func TestRest(t *testing.T) {
	for _, x := range []struct {
		s    string
		want int
	}{
		{"0", 0}, {"9", 9}, {"96", 96}, {"97", 0}, {"98", 1}, {"000", 0}, {"0097", 0},
		{"A", 10}, {"Z", 35}, {"1A", 13}, {"A1", 4}, {"AA", 40}, {"ZZ", 43}, {"9700", 0}, {"9701", 1},
		{"WEST12345698765432GB82", 1},
		{strings.Repeat("97", 100000), 0},
		{strings.Repeat("97", 100000) + "Z", 35},
	} {
		if got, err := checks.Rest(x.s); got != x.want || err != nil {
			t.Errorf("Rest(%.40q): %d, %v, want %d", x.s, got, err, x.want)
		}
	}
}

func TestDigits(t *testing.T) {
	for _, x := range []struct{ s, want string }{
		{"1", "95"}, {"0", "98"}, {"97", "98"}, {"32", "02"}, {"65", "97"}, {"33", "96"}, {"Z", "90"},
		{"WEST12345698765432GB", "82"},
		{strings.Repeat("97", 100000) + "1", "95"},
	} {
		if got, err := checks.Digits(x.s); got != x.want || err != nil {
			t.Errorf("Digits(%.40q): %q, %v, want %q", x.s, got, err, x.want)
		}
		if !checks.Fits(x.s + x.want) {
			t.Errorf("%.40q with %q doesn't fit", x.s, x.want)
		}
	}
}

func TestFitsRefuses(t *testing.T) {
	for _, s := range []string{
		"", "9", "95", "98", "02", "00",
		"196", "194", "159", "095", "1950", "951",
		// These leave 1 too, but have other digits at the end.
		"9701", "001", "3299", "6500",
		// Bytes that may not stand ahead, and ends that are no digits.
		"a95", "1 95", " 195", "195 ", "\x0098", "\xff98", "-195", "+195", "1.95", "\xef\xbc\x9195",
		"19A", "1A5", "1AA", "AAA", "1Z", "\u0661\u0669\u0665",
	} {
		if checks.Fits(s) {
			t.Errorf("%q fits", s)
		}
	}
}

func TestLuhn(t *testing.T) {
	for _, x := range []struct {
		s    string
		want int
	}{
		{"0", 0}, {"1", 8}, {"2", 6}, {"3", 4}, {"4", 2}, {"5", 9}, {"6", 7}, {"7", 5}, {"8", 3}, {"9", 1},
		{"10", 9}, {"01", 8}, {"18", 2}, {"81", 0}, {"09", 1}, {"90", 1}, {"000", 0}, {"7992739871", 3},
		{strings.Repeat("0", 100000), 0}, {"5" + strings.Repeat("0", 100000), 9}, {"5" + strings.Repeat("0", 99999), 5},
	} {
		if got, err := checks.Luhn(x.s); got != x.want || err != nil {
			t.Errorf("Luhn(%.40q): %d, %v, want %d", x.s, got, err, x.want)
		}
	}
}

func TestEmptyTexts(t *testing.T) {
	checkRefused(t, "")
	checkLuhnRefused(t, "")
}

// TestEveryByte asks for each byte at each of three places.
func TestEveryByte(t *testing.T) {
	digits, letters := "0123456789", "ABCDEFGHIJKLMNOPQRSTUVWXYZ"
	for b := range 256 {
		c := string([]byte{byte(b)})
		for _, s := range []string{c, c + "12", "1" + c + "2", "12" + c, strings.Repeat("7", 50) + c} {
			if !strings.Contains(digits+letters, c) {
				checkRefused(t, s)
			} else if _, err := checks.Rest(s); err != nil {
				t.Errorf("Rest(%q): %v", s, err)
			} else if _, err := checks.Digits(s); err != nil {
				t.Errorf("Digits(%q): %v", s, err)
			}
			if !strings.Contains(digits, c) {
				checkLuhnRefused(t, s)
			} else if _, err := checks.Luhn(s); err != nil {
				t.Errorf("Luhn(%q): %v", s, err)
			}
		}
	}
}

// checkRefused asks that s, which has a byte that is no digit and no capital letter, or none at all, is refused.
func checkRefused(t *testing.T, s string) {
	t.Helper()
	if n, err := checks.Rest(s); n != 0 || err != api.ErrForm {
		t.Errorf("Rest(%q): %d, %v", s, n, err)
	}
	if d, err := checks.Digits(s); d != "" || err != api.ErrForm {
		t.Errorf("Digits(%q): %q, %v", s, d, err)
	}
	for n := range 100 {
		if end := string([]byte{'0' + byte(n/10), '0' + byte(n%10)}); checks.Fits(s + end) {
			t.Errorf("%q fits", s+end)
		}
	}
}

func checkLuhnRefused(t *testing.T, s string) {
	t.Helper()
	if n, err := checks.Luhn(s); n != 0 || err != api.ErrForm {
		t.Errorf("Luhn(%q): %d, %v", s, n, err)
	}
}
