package ident_test

import (
	"math"
	"remit/api"
	"remit/ident"
	"strings"
	"testing"
)

const (
	sample   = "GB82WEST12345698765432"
	capitals = "ABCDEFGHIJKLMNOPQRSTUVWXYZ"
	smalls   = "abcdefghijklmnopqrstuvwxyz"
	digits   = "0123456789"
)

// numbers are account numbers, by their country and body.
var numbers = []struct{ country, body, want string }{
	{"GB", "WEST12345698765432", sample},
	{"GB", "1", "GB881"},
	{"DE", "370400440532013000", "DE89370400440532013000"},
	{"FR", "20041010050500013M02606", "FR1420041010050500013M02606"},
	{"NO", "86011117947", "NO9386011117947"},
	{"MT", "MALT011000012345MTLCAST001S", "MT84MALT011000012345MTLCAST001S"},
	{"AA", "0", "AA750"},
	{"ZZ", "Z", "ZZ91Z"},
	// The longest.
	{"AA", strings.Repeat("0", 30), "AA75" + strings.Repeat("0", 30)},
	{"AA", strings.Repeat("9", 30), "AA38" + strings.Repeat("9", 30)},
	{"ZZ", strings.Repeat("Z", 30), "ZZ59" + strings.Repeat("Z", 30)},
	// Check digits at their least and greatest.
	{"AA", "53", "AA0253"},
	{"AA", "35", "AA0335"},
	{"AA", "10", "AA9610"},
	{"AA", "89", "AA9789"},
	{"AA", "71", "AA9871"},
}

func TestMake(t *testing.T) {
	for _, x := range numbers {
		if got, err := ident.Make(x.country, x.body); got != x.want || err != nil {
			t.Errorf("Make(%q, %q): %q, %v, want %q", x.country, x.body, got, err, x.want)
		}
		checkNormal(t, x.want, x.want, nil)
	}
}

func TestMakeRefuses(t *testing.T) {
	for _, x := range [][2]string{
		{"", "1"}, {"G", "1"}, {"GBR", "1"}, {"gb", "1"}, {"Gb", "1"}, {"gB", "1"}, {"G1", "1"}, {"1B", "1"}, {"12", "1"}, {"G ", "1"}, {" GB", "1"}, {"GB ", "1"}, {"\xc9", "1"}, {"É", "1"},
		{strings.Repeat("GB", 100000), "1"},
		{"GB", ""}, {"GB", "a"}, {"GB", "1a"}, {"GB", "WEST 1"}, {"GB", " 1"}, {"GB", "1 "}, {"GB", "1-2"}, {"GB", "é"}, {"GB", "\x00"}, {"GB", "\u0661"},
		{"GB", strings.Repeat("1", 31)}, {"GB", strings.Repeat("A", 31)}, {"GB", strings.Repeat("1", 30) + " "}, {"GB", strings.Repeat("1", 1<<20)},
		{"", ""}, {"1", ""}, {"GBWEST12345698765432", ""},
	} {
		if got, err := ident.Make(x[0], x[1]); got != "" || err != api.ErrForm {
			t.Errorf("Make(%.40q, %.40q): %q, %v", x[0], x[1], got, err)
		}
	}
}

// checkNormal asks for what Normal answers, and of a normal form whether it passes Check.
func checkNormal(t *testing.T, s, want string, wantErr error) {
	t.Helper()
	if got, err := ident.Normal(s); got != want || err != wantErr {
		t.Errorf("Normal(%.60q): %q, %v, want %q, %v", s, got, err, want, wantErr)
	}
	if wantErr != nil {
		return
	}
	if err := ident.Check(want); err != nil {
		t.Errorf("Check(%q): %v", want, err)
	}
}

func TestCheck(t *testing.T) {
	for _, x := range []struct {
		s    string
		want error
	}{
		{sample, nil},
		{"GB83WEST12345698765432", api.ErrDigits},
		{"GB28WEST12345698765432", api.ErrDigits},
		{"BG82WEST12345698765432", api.ErrDigits},
		{"GB82WEST12345698765423", api.ErrDigits},
		{"GB82EWST12345698765432", api.ErrDigits},
		{sample + "0", api.ErrDigits},
		{"WEST12345698765432GB82", api.ErrForm},
		{"GB82", api.ErrForm},
		{"GB8", api.ErrForm},
		{"GB", api.ErrForm},
		{"", api.ErrForm},
		{"gb82WEST12345698765432", api.ErrForm},
		{"GB82west12345698765432", api.ErrForm},
		{"GB82WEST1234569876543 ", api.ErrForm},
		{sample + " ", api.ErrForm},
		{" " + sample, api.ErrForm},
		{"GB82 WEST12345698765432", api.ErrForm},
		{"GBAAWEST12345698765432", api.ErrForm},
		{"GB8AWEST12345698765432", api.ErrForm},
		{"12821234", api.ErrForm},
		{"outside.EUR", api.ErrForm},
		{"AA75" + strings.Repeat("0", 31), api.ErrForm},
		{"AA75" + strings.Repeat("0", 29), nil},
		{"AA74" + strings.Repeat("0", 30), api.ErrDigits},
		{"AA75" + strings.Repeat("0", 1<<20), api.ErrForm},
		// What these leave is what it leaves where the digits fit.
		{"AA9953", api.ErrDigits},
		{"AA0089", api.ErrDigits},
		{"AA0171", api.ErrDigits},
		// The form comes ahead of the digits.
		{"GB83WEST1234569876543x", api.ErrForm},
		{"GB00", api.ErrForm},
	} {
		if err := ident.Check(x.s); err != x.want {
			t.Errorf("Check(%.60q): %v, want %v", x.s, err, x.want)
		}
	}
}

func TestNormal(t *testing.T) {
	for _, x := range []struct {
		s, want string
		err     error
	}{
		{"gb82 west 1234 5698 7654 32", sample, nil},
		{"GB82 WEST 1234 5698 7654 32", sample, nil},
		{"  g b 8 2WeSt12345698765432   ", sample, nil},
		{strings.Repeat(" ", 1<<20) + sample + strings.Repeat(" ", 1<<20), sample, nil},
		{"zz 91 z", "ZZ91Z", nil},
		{"aa91 a", "", api.ErrDigits},
		{"gb83 west 1234 5698 7654 32", "", api.ErrDigits},
		{"gb82 ewst 1234 5698 7654 32", "", api.ErrDigits},
		{"", "", api.ErrForm},
		{"   ", "", api.ErrForm},
		{"gb82", "", api.ErrForm},
		{"gb82 -west", "", api.ErrForm},
		{"GB82\tWEST12345698765432", "", api.ErrForm},
		{sample + "\n", "", api.ErrForm},
		{sample + "\x00", "", api.ErrForm},
		{"GB82\u00a0WEST12345698765432", "", api.ErrForm},
		// A long s and an i without its point, whose capitals are S and I.
		{"gb82 we\u017ft 1234 5698 7654 32", "", api.ErrForm},
		{"gb82 \u0131", "", api.ErrForm},
		{"AA75" + strings.Repeat(" 0", 30), "AA75" + strings.Repeat("0", 30), nil},
		{"AA75" + strings.Repeat(" 0", 31), "", api.ErrForm},
		{strings.Repeat("a", 1<<20), "", api.ErrForm},
	} {
		checkNormal(t, x.s, x.want, x.err)
	}
}

func TestMask(t *testing.T) {
	for _, x := range []struct{ s, want string }{
		{sample, "GB82**************5432"},
		{"", ""},
		{"a", "*"},
		{"1234", "****"},
		{"1234567", "*******"},
		{"12345678", "********"},
		{"123456789", "1234*6789"},
		{"1234567890", "1234**7890"},
		{"        x        ", "    *********    "},
		{"*********", "*********"},
		// By bytes, whatever they are.
		{"éééé", "********"},
		{"éééééé", "éé****éé"},
		{"ab\u0661cd", "******"},
		{"\x00\x01\x02\x03\x04\x05\xfc\xfd\xfe\xff", "\x00\x01\x02\x03**\xfc\xfd\xfe\xff"},
		{"abcd" + strings.Repeat("\x80", 1<<20) + "efgh", "abcd" + strings.Repeat("*", 1<<20) + "efgh"},
	} {
		if got := ident.Mask(x.s); got != x.want {
			t.Errorf("Mask(%.60q): %.60q, want %.60q", x.s, got, x.want)
		}
	}
}

func TestSystem(t *testing.T) {
	starts := map[int]string{api.Outside: "outside.", api.Suspense: "suspense.", api.Clearing: "clearing.", api.Income: "fees."}
	kinds := []int{math.MinInt, math.MaxInt, 1 << 8, 1<<32 + api.Suspense}
	for kind := -10; kind < 20; kind++ {
		kinds = append(kinds, kind)
	}
	for _, kind := range kinds {
		for _, code := range []string{"EUR", "JPY", "AAA", "ZZZ", "XYZ"} {
			want := starts[kind]
			if want != "" {
				want += code
			}
			if got := ident.System(kind, code); got != want {
				t.Errorf("System(%d, %q): %q, want %q", kind, code, got, want)
			}
		}
		for _, code := range []string{"", "E", "EU", "eur", "Eur", "EURO", "EU1", "EU ", " EUR", "EUR ", "E.R", "\u20ac", "EU\x00", strings.Repeat("EUR", 100000)} {
			if got := ident.System(kind, code); got != "" {
				t.Errorf("System(%d, %.40q): %.40q", kind, code, got)
			}
		}
	}
}

// TestSystemIsNoAccountNumber: what tells them from customers' accounts is their point.
func TestSystemIsNoAccountNumber(t *testing.T) {
	for kind := api.Outside; kind <= api.Income; kind++ {
		s := ident.System(kind, "EUR")
		if s == "" || ident.Check(s) != api.ErrForm || ident.Id(s) != nil {
			t.Errorf("System(%d, EUR): %q, Check: %v, Id: %v", kind, s, ident.Check(s), ident.Id(s))
		}
		if got, err := ident.Normal(s); got != "" || err != api.ErrForm {
			t.Errorf("Normal(%q): %q, %v", s, got, err)
		}
	}
}

func TestId(t *testing.T) {
	for _, s := range []string{"a-1.b_C", "a", "Z", "0", ".", "_", "-", "...", "p1", capitals, smalls, digits, strings.Repeat("x", 32), strings.Repeat(".", 31)} {
		if err := ident.Id(s); err != nil {
			t.Errorf("Id(%q): %v", s, err)
		}
	}
	for _, s := range []string{"", " ", "a b", " a", "a ", "#1", "a/b", "a\n", "\x00", "\x80", "é", "\u0661", strings.Repeat("x", 33), strings.Repeat("x", 31) + " ", strings.Repeat("x", 1<<20)} {
		if err := ident.Id(s); err != api.ErrId {
			t.Errorf("Id(%.40q): %v", s, err)
		}
	}
}

// tokens are tokens by their number.
var tokens = []struct {
	number int
	token  string
}{
	{1, "P00000000000131"},
	{2, "P00000000000228"},
	{10, "P00000000001004"},
	{12345, "P00000001234553"},
	{100000000000, "P10000000000019"},
	{999999999999, "P99999999999981"},
	// Check digits at their least and greatest.
	{43, "P00000000004302"},
	{76, "P00000000007697"},
	{11, "P00000000001198"},
}

func TestTokens(t *testing.T) {
	for _, x := range tokens {
		if got, err := ident.Token(x.number); got != x.token || err != nil {
			t.Errorf("Token(%d): %q, %v, want %q", x.number, got, err, x.token)
		}
		if got, err := ident.Number(x.token); got != x.number || err != nil {
			t.Errorf("Number(%q): %d, %v, want %d", x.token, got, err, x.number)
		}
	}
	for _, number := range []int{0, -1, -12345, 1000000000000, 1000000000001, math.MaxInt, math.MinInt, 1<<32 + 1<<41} {
		if got, err := ident.Token(number); got != "" || err != api.ErrRange {
			t.Errorf("Token(%d): %q, %v", number, got, err)
		}
	}
}

func TestNumberRefuses(t *testing.T) {
	for _, x := range []struct {
		token string
		want  error
	}{
		{"", api.ErrForm},
		{"P", api.ErrForm},
		{"P000000000001", api.ErrForm},
		{"P0000000000013", api.ErrForm},
		{"P000000000001310", api.ErrForm},
		{"P000000000000131", api.ErrForm},
		{"Q00000000000131", api.ErrForm},
		{"p00000000000131", api.ErrForm},
		{"000000000000131", api.ErrForm},
		{"00000000000131P", api.ErrForm},
		{"P0000000000013x", api.ErrForm},
		{"P000000000001 1", api.ErrForm},
		{" P0000000000013", api.ErrForm},
		{"P-0000000000131", api.ErrForm},
		{"P+0000000000131", api.ErrForm},
		{"P0x000000000131", api.ErrForm},
		{"P00000_00000131", api.ErrForm},
		{"PA0000000000131", api.ErrForm},
		{"P000000000001A1", api.ErrForm},
		{"P000000000001\u0663", api.ErrForm},
		{"P" + strings.Repeat("0", 1<<20), api.ErrForm},
		{"P00000000000132", api.ErrDigits},
		{"P00000000000113", api.ErrDigits},
		{"P00000000001031", api.ErrDigits},
		{"P99999999999982", api.ErrDigits},
		// What these leave is what it leaves where the digits fit.
		{"P00000000004399", api.ErrDigits},
		{"P00000000007600", api.ErrDigits},
		{"P00000000001101", api.ErrDigits},
		// The digits come ahead of the number's being 0.
		{"P00000000000000", api.ErrDigits},
		{"P00000000000035", api.ErrDigits},
		{"P00000000000034", api.ErrForm},
	} {
		if got, err := ident.Number(x.token); got != 0 || err != x.want {
			t.Errorf("Number(%.40q): %d, %v, want %v", x.token, got, err, x.want)
		}
	}
}

// TestEveryByte puts each byte at each place of what passes.
func TestEveryByte(t *testing.T) {
	for b := range 256 {
		c := string([]byte{byte(b)})
		for _, s := range []string{sample, "GB881", "AA75" + strings.Repeat("0", 30)} {
			for at := range len(s) {
				checkAccount(t, s[:at]+c+s[at+1:])
			}
			for at := range len(s) + 1 {
				checkAccount(t, s[:at]+c+s[at:])
			}
		}
		for _, s := range []string{"P00000000000131", "P12345678901291"} {
			for at := range len(s) {
				checkToken(t, s[:at]+c+s[at+1:])
				checkToken(t, s[:at]+c+s[at:])
			}
		}
		for _, s := range []string{c, "a" + c, c + "a", strings.Repeat("x", 31) + c} {
			if err := ident.Id(s); err != modelId(s) {
				t.Errorf("Id(%q): %v, want %v", s, err, modelId(s))
			}
		}
		for _, x := range [][2]string{{c + "B", "1"}, {"G" + c, "1"}, {"GB", c}, {"GB", "1" + c + "A"}, {"GB", strings.Repeat("7", 29) + c}} {
			checkMake(t, x[0], x[1])
		}
	}
}

// TestCallsHangOnTheirArgumentsAlone asks the same twice, with other calls between.
func TestCallsHangOnTheirArgumentsAlone(t *testing.T) {
	for range 2 {
		for _, x := range numbers {
			checkMake(t, x.country, x.body)
			checkAccount(t, x.want)
			checkAccount(t, x.want+"x")
		}
		for _, x := range tokens {
			checkToken(t, x.token)
			checkToken(t, x.token[1:]+"P")
		}
	}
}
