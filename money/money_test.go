package money_test

import (
	"math"
	"remit/api"
	"remit/money"
	"slices"
	"strings"
	"testing"
)

const (
	least    = math.MinInt64
	greatest = math.MaxInt64
)

func TestAddAndSub(t *testing.T) {
	for _, x := range []struct {
		a, b, want int64
		err        error
	}{
		{0, 0, 0, nil},
		{2, 3, 5, nil},
		{2, -3, -1, nil},
		{greatest, 1, 0, api.ErrOverflow},
		{1, greatest, 0, api.ErrOverflow},
		{greatest, greatest, 0, api.ErrOverflow},
		{greatest, 0, greatest, nil},
		{greatest - 1, 1, greatest, nil},
		{least, -1, 0, api.ErrOverflow},
		{least, least, 0, api.ErrOverflow},
		{least + 1, -1, least, nil},
		{least, 0, least, nil},
		{least, greatest, -1, nil},
	} {
		if got, err := money.Add(x.a, x.b); got != x.want || err != x.err {
			t.Errorf("Add(%d, %d): %d, %v, want %d, %v", x.a, x.b, got, err, x.want, x.err)
		}
	}
	for _, x := range []struct {
		a, b, want int64
		err        error
	}{
		{0, 0, 0, nil},
		{2, 3, -1, nil},
		{2, -3, 5, nil},
		{0, least, 0, api.ErrOverflow},
		{-1, least, greatest, nil},
		{least, least, 0, nil},
		{greatest, least, 0, api.ErrOverflow},
		{greatest, -1, 0, api.ErrOverflow},
		{greatest, greatest, 0, nil},
		{least, 1, 0, api.ErrOverflow},
		{least, greatest, 0, api.ErrOverflow},
		{-1, greatest, least, nil},
		{-2, greatest, 0, api.ErrOverflow},
		{0, greatest, least + 1, nil},
	} {
		if got, err := money.Sub(x.a, x.b); got != x.want || err != x.err {
			t.Errorf("Sub(%d, %d): %d, %v, want %d, %v", x.a, x.b, got, err, x.want, x.err)
		}
	}
}

func TestSum(t *testing.T) {
	for _, x := range []struct {
		list []int64
		want int64
		err  error
	}{
		{nil, 0, nil},
		{[]int64{}, 0, nil},
		{[]int64{7}, 7, nil},
		{[]int64{least}, least, nil},
		{[]int64{greatest, 1, -5}, greatest - 4, nil},
		{[]int64{greatest, greatest, greatest, least, least, least}, -3, nil},
		{[]int64{least, least, greatest, greatest, 2}, 0, nil},
		{[]int64{greatest, 1}, 0, api.ErrOverflow},
		{[]int64{greatest, 1, 1, -1}, 0, api.ErrOverflow},
		{[]int64{least, -1}, 0, api.ErrOverflow},
		// Sums that come back into 64 bits, if what is above them is dropped.
		{[]int64{greatest, greatest, 2}, 0, api.ErrOverflow},
		{[]int64{least, least}, 0, api.ErrOverflow},
		{[]int64{least, least, least, least, 5}, 0, api.ErrOverflow},
	} {
		if got, err := money.Sum(x.list...); got != x.want || err != x.err {
			t.Errorf("Sum(%d): %d, %v, want %d, %v", x.list, got, err, x.want, x.err)
		}
	}
}

func TestSumOfMany(t *testing.T) {
	const many = 1 << 20
	list := slices.Concat(slices.Repeat([]int64{greatest}, many), slices.Repeat([]int64{least}, many))
	if got, err := money.Sum(list...); got != -many || err != nil {
		t.Errorf("as many of the one as of the other: %d, %v", got, err)
	}
	if got, err := money.Sum(list[:many]...); got != 0 || err != api.ErrOverflow {
		t.Errorf("all above 0: %d, %v", got, err)
	}
	if got, err := money.Sum(list[many:]...); got != 0 || err != api.ErrOverflow {
		t.Errorf("all below 0: %d, %v", got, err)
	}
}

func TestRate(t *testing.T) {
	for _, x := range []struct {
		amount int64
		rate   int
		want   int64
		err    error
	}{
		{12345, 150, 185, nil},
		{50, 100, 0, nil},
		{150, 100, 2, nil},
		{-50, 100, 0, nil},
		{-150, 100, -2, nil},
		{250, 100, 2, nil},
		{-250, 100, -2, nil},
		{350, 100, 4, nil},
		{49, 100, 0, nil},
		{51, 100, 1, nil},
		{-51, 100, -1, nil},
		{4999, 1, 0, nil},
		{5000, 1, 0, nil},
		{5001, 1, 1, nil},
		{15000, 1, 2, nil},
		{0, 5000, 0, nil},
		{1, 0, 0, nil},
		{1, 10000, 1, nil},
		{1, 9999, 1, nil},
		{1, 5000, 0, nil},
		{1, 5001, 1, nil},
		{greatest, 10000, greatest, nil},
		{greatest, 9999, 9222449699651090329, nil},
		{greatest, 5000, 1 << 62, nil},
		{greatest, 1, 922337203685478, nil},
		{least, 10000, least, nil},
		{least, 9999, -9222449699651090330, nil},
		{least, 5000, -1 << 62, nil},
		{least, 0, 0, nil},
		{1, 10001, 0, api.ErrRange},
		{1, -1, 0, api.ErrRange},
		{0, 10001, 0, api.ErrRange},
		{least, -1, 0, api.ErrRange},
		{1, math.MaxInt, 0, api.ErrRange},
		{1, math.MinInt, 0, api.ErrRange},
	} {
		if got, err := money.Rate(x.amount, x.rate); got != x.want || err != x.err {
			t.Errorf("Rate(%d, %d): %d, %v, want %d, %v", x.amount, x.rate, got, err, x.want, x.err)
		}
	}
}

func TestSplit(t *testing.T) {
	for _, x := range []struct {
		amount  int64
		weights []int
		want    []int64
	}{
		{100, []int{1, 1, 1}, []int64{34, 33, 33}},
		{10, []int{3, 3, 1}, []int64{4, 4, 2}},
		{10, []int{1, 3, 3}, []int64{2, 4, 4}},
		{5, []int{0, 2, 0}, []int64{0, 5, 0}},
		{2, []int{1, 1, 1}, []int64{1, 1, 0}},
		{2, []int{0, 1, 0, 1, 1}, []int64{0, 1, 0, 1, 0}},
		{1, []int{1, 2, 3}, []int64{0, 0, 1}},
		{0, []int{1, 2}, []int64{0, 0}},
		{7, []int{1}, []int64{7}},
		{7, []int{1000000}, []int64{7}},
		{3, []int{1000000, 1}, []int64{3, 0}},
		{1000001, []int{1, 1000000}, []int64{1, 1000000}},
		{greatest, []int{1}, []int64{greatest}},
		{greatest, []int{1000000}, []int64{greatest}},
		{greatest, []int{1000000, 1000000}, []int64{1 << 62, 1<<62 - 1}},
		{greatest, []int{1000000, 0, 999999}, []int64{4611688324271550039, 0, 4611683712583225768}},
	} {
		if got, err := money.Split(x.amount, x.weights); !slices.Equal(got, x.want) || err != nil {
			t.Errorf("Split(%d, %d): %d, %v, want %d", x.amount, x.weights, got, err, x.want)
		}
	}
}

func TestSplitRefuses(t *testing.T) {
	for _, x := range []struct {
		amount  int64
		weights []int
		err     error
	}{
		{7, nil, api.ErrRange},
		{7, []int{}, api.ErrRange},
		{7, []int{0, 0}, api.ErrRange},
		{0, []int{0}, api.ErrRange},
		{0, nil, api.ErrRange},
		{7, []int{1, -1}, api.ErrRange},
		{7, []int{-1, 2}, api.ErrRange},
		{7, []int{1000001}, api.ErrRange},
		{7, []int{1, 1000001}, api.ErrRange},
		{7, []int{math.MaxInt, math.MaxInt, 3}, api.ErrRange},
		{7, []int{math.MinInt, 1}, api.ErrRange},
		{-1, nil, api.ErrAmount},
		{-1, []int{1}, api.ErrAmount},
		{-1, []int{1, -1}, api.ErrAmount},
		{least, []int{1}, api.ErrAmount},
	} {
		if got, err := money.Split(x.amount, x.weights); len(got) != 0 || err != x.err {
			t.Errorf("Split(%d, %d): %d, %v, want %v", x.amount, x.weights, got, err, x.err)
		}
	}
}

func TestSplitAmongMany(t *testing.T) {
	const many = 1 << 17
	got, err := money.Split(3*many+5, slices.Repeat([]int{1000000}, many))
	want := slices.Concat(slices.Repeat([]int64{4}, 5), slices.Repeat([]int64{3}, many-5))
	if !slices.Equal(got, want) || err != nil {
		t.Errorf("the first: %d, %v", got[:min(len(got), 10)], err)
	}
}

func TestCode(t *testing.T) {
	for _, x := range []struct {
		s    string
		want bool
	}{
		{"EUR", true}, {"AZM", true}, {"ZZZ", true}, {"AAA", true},
		{"", false}, {"E", false}, {"EU", false}, {"EURO", false}, {"EUREUR", false},
		{"eur", false}, {"EUr", false}, {"EU1", false}, {" EU", false}, {"EU ", false},
		{"É1", false}, {"E\x00R", false}, {"€", false}, {"\uFF25", false},
	} {
		if got := money.Code(x.s); got != x.want {
			t.Errorf("Code(%q): %v", x.s, got)
		}
	}
	for b := range 256 {
		c := string([]byte{byte(b)})
		want := 'A' <= b && b <= 'Z'
		for _, s := range []string{c + "UR", "E" + c + "R", "EU" + c} {
			if got := money.Code(s); got != want {
				t.Errorf("Code(%q): %v", s, got)
			}
		}
		for _, s := range []string{c, c + "EUR", "EUR" + c, "EU" + c + "R"} {
			if money.Code(s) {
				t.Errorf("Code(%q): true", s)
			}
		}
	}
}

func TestText(t *testing.T) {
	for _, x := range []struct {
		amount int64
		digits int
		want   string
	}{
		{12345, 2, "123.45"},
		{-12345, 2, "-123.45"},
		{-5, 2, "-0.05"},
		{0, 2, "0.00"},
		{0, 0, "0"},
		{0, 6, "0.000000"},
		{7, 0, "7"},
		{-7, 0, "-7"},
		{10, 1, "1.0"},
		{100, 0, "100"},
		{99, 2, "0.99"},
		{100, 2, "1.00"},
		{1, 6, "0.000001"},
		{-1, 6, "-0.000001"},
		{1000000, 6, "1.000000"},
		{least, 0, "-9223372036854775808"},
		{least, 2, "-92233720368547758.08"},
		{least, 6, "-9223372036854.775808"},
		{greatest, 0, "9223372036854775807"},
		{greatest, 6, "9223372036854.775807"},
		{7, 7, ""},
		{7, -1, ""},
		{0, math.MaxInt, ""},
		{0, math.MinInt, ""},
	} {
		if got := money.Text(x.amount, x.digits); got != x.want {
			t.Errorf("Text(%d, %d): %q, want %q", x.amount, x.digits, got, x.want)
		}
	}
}

func TestParse(t *testing.T) {
	for _, x := range []struct {
		s      string
		digits int
		want   int64
	}{
		{"123.45", 2, 12345},
		{"-0.05", 2, -5},
		{"0.00", 2, 0},
		{"0", 0, 0},
		{"7", 0, 7},
		{"-7", 0, -7},
		{"10.0", 1, 100},
		{"-0.000001", 6, -1},
		{"9223372036854775807", 0, greatest},
		{"-9223372036854775808", 0, least},
		{"92233720368547758.07", 2, greatest},
		{"-92233720368547758.08", 2, least},
		{"-9223372036854.775808", 6, least},
	} {
		if got, err := money.Parse(x.s, x.digits); got != x.want || err != nil {
			t.Errorf("Parse(%q, %d): %d, %v, want %d", x.s, x.digits, got, err, x.want)
		}
	}
}

func TestParseRefusesForms(t *testing.T) {
	for _, x := range []struct {
		s      string
		digits int
	}{
		{"1.5", 2}, {"01.50", 2}, {"-0.00", 2}, {"1.", 0}, {".50", 2}, {"", 0}, {"+1", 0},
		{"-0", 0}, {"-", 0}, {"--1", 0}, {"-+1", 0}, {"1-", 0}, {"00", 0}, {"-01", 0},
		{"", 2}, {".", 1}, {"-.5", 1}, {"1", 2}, {"100", 2}, {"1.500", 2}, {"1.50", 0}, {"1.50", 1},
		{"1..50", 2}, {"1.5.0", 2}, {"1.-5", 2}, {"0-.05", 2}, {"00.50", 2}, {"-00.50", 2},
		{"1,50", 2}, {" 1", 0}, {"1 ", 0}, {"1_0", 0}, {"1e2", 0}, {"0x1", 0}, {"0b1", 0}, {"inf", 0}, {"\xd9\xa1", 0}, {"1\x00", 0},
		{"99999999999999999999x", 0}, {"099999999999999999999", 0}, {"99999999999999999999", 2}, {"99999999999999999999.9", 2},
		{"-" + strings.Repeat("0", 1000), 0}, {strings.Repeat("9", 1000) + "-", 0}, {strings.Repeat("9", 1000), 1},
	} {
		if got, err := money.Parse(x.s, x.digits); got != 0 || err != api.ErrForm {
			t.Errorf("Parse(%.40q, %d): %d, %v", x.s, x.digits, got, err)
		}
	}
}

func TestParseRefusesNumbers(t *testing.T) {
	for _, x := range []struct {
		s      string
		digits int
	}{
		{"92233720368547758.08", 2}, {"-92233720368547758.09", 2},
		{"9223372036854775808", 0}, {"-9223372036854775809", 0},
		{"9223372036854.775808", 6}, {"-9223372036854.775809", 6},
		{"18446744073709551615", 0}, {"18446744073709551616", 0}, {"18446744073709551617", 0}, {"-18446744073709551616", 0},
		{"1" + strings.Repeat("0", 100000), 0}, {"-" + strings.Repeat("9", 100000) + ".00", 2},
	} {
		if got, err := money.Parse(x.s, x.digits); got != 0 || err != api.ErrOverflow {
			t.Errorf("Parse(%.40q, %d): %d, %v", x.s, x.digits, got, err)
		}
	}
	for _, digits := range []int{-1, 7, math.MinInt, math.MaxInt} {
		for _, s := range []string{"1", "", "x", "0.0000001", "9223372036854775808"} {
			if got, err := money.Parse(s, digits); got != 0 || err != api.ErrRange {
				t.Errorf("Parse(%q, %d): %d, %v", s, digits, got, err)
			}
		}
	}
}

func TestFind(t *testing.T) {
	list := []api.Currency{{Code: "EUR", Digits: 2}, {Code: "JPY"}, {Code: "EUR", Digits: 3}, {Code: "eur", Digits: -9}, {Digits: 4}, {Code: "long", Digits: 5}}
	for _, x := range []struct {
		list []api.Currency
		code string
		want api.Currency
		ok   bool
	}{
		{list, "EUR", api.Currency{Code: "EUR", Digits: 2}, true},
		{list[1:], "EUR", api.Currency{Code: "EUR", Digits: 3}, true},
		{list, "JPY", api.Currency{Code: "JPY"}, true},
		{list, "eur", api.Currency{Code: "eur", Digits: -9}, true},
		{list, "", api.Currency{Digits: 4}, true},
		{list, "long", api.Currency{Code: "long", Digits: 5}, true},
		{list, "USD", api.Currency{}, false},
		{list, "EU", api.Currency{}, false},
		{list, "EURO", api.Currency{}, false},
		{list[:3], "", api.Currency{}, false},
		{nil, "EUR", api.Currency{}, false},
		{[]api.Currency{}, "", api.Currency{}, false},
	} {
		if got, ok := money.Find(x.list, x.code); got != x.want || ok != x.ok {
			t.Errorf("Find(%v, %q): %v, %v, want %v, %v", x.list, x.code, got, ok, x.want, x.ok)
		}
	}
}
