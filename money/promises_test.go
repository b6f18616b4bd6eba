package money_test

import (
	"math/big"
	"math/rand/v2"
	"remit/api"
	"remit/money"
	"slices"
	"strings"
	"testing"
)

// The models say the chapter's words over numbers without bounds.

func whole(n int64) *big.Int { return big.NewInt(n) }

func times(a int64, b int) *big.Int { return new(big.Int).Mul(whole(a), whole(int64(b))) }

// fitted is what a call answers whose result is n.
func fitted(n *big.Int) (int64, error) {
	if !n.IsInt64() {
		return 0, api.ErrOverflow
	}
	return n.Int64(), nil
}

func modelSum(list []int64) (int64, error) {
	sum := new(big.Int)
	for _, x := range list {
		sum.Add(sum, whole(x))
	}
	return fitted(sum)
}

func modelRate(amount int64, rate int) (int64, error) {
	if rate < 0 || rate > 10000 {
		return 0, api.ErrRange
	}
	// DivMod rounds down, below 0 too.
	share, rest := new(big.Int).DivMod(times(amount, rate), whole(10000), new(big.Int))
	if n := rest.Int64(); n > 5000 || n == 5000 && share.Bit(0) == 1 {
		share.Add(share, whole(1))
	}
	return fitted(share)
}

func modelSplit(amount int64, weights []int) ([]int64, error) {
	if amount < 0 {
		return nil, api.ErrAmount
	}
	sum := int64(0)
	for _, w := range weights {
		if w < 0 || w > 1000000 {
			return nil, api.ErrRange
		}
		sum += int64(w)
	}
	if sum == 0 {
		return nil, api.ErrRange
	}
	var shares, rests []int64
	left := amount
	for _, w := range weights {
		share, rest := new(big.Int).DivMod(times(amount, w), whole(sum), new(big.Int))
		shares, rests = append(shares, share.Int64()), append(rests, rest.Int64())
		left -= share.Int64()
	}
	for range left {
		at := slices.Index(rests, slices.Max(rests))
		shares[at]++
		rests[at] = -1
	}
	return shares, nil
}

func modelText(n *big.Int, digits int) string {
	if digits < 0 || digits > 6 {
		return ""
	}
	unit := new(big.Int).Exp(whole(10), whole(int64(digits)), nil)
	front, back := new(big.Int).DivMod(new(big.Int).Abs(n), unit, new(big.Int))
	out := front.String()
	if n.Sign() < 0 {
		out = "-" + out
	}
	if digits > 0 {
		// The unit above the rest puts a 1 where its noughts begin.
		out += "." + back.Add(back, unit).String()[1:]
	}
	return out
}

func modelParse(s string, digits int) (int64, error) {
	if digits < 0 || digits > 6 {
		return 0, api.ErrRange
	}
	n, ok := new(big.Int).SetString(strings.ReplaceAll(s, ".", ""), 10)
	if !ok || modelText(n, digits) != s {
		return 0, api.ErrForm
	}
	return fitted(n)
}

// anyAmount has any number of bits, and stands near a bound now and then.
func anyAmount(rnd *rand.Rand) int64 {
	switch rnd.IntN(8) {
	case 0:
		return greatest - rnd.Int64N(4)
	case 1:
		return least + rnd.Int64N(4)
	}
	return int64(rnd.Uint64()) >> rnd.IntN(64)
}

// edges are amounts round 0, round the bounds, and round the powers of two and ten.
func edges() []int64 {
	out := []int64{0, greatest, least}
	for bit := range 63 {
		out = append(out, 1<<bit)
	}
	for n := int64(1); n <= greatest/10; {
		n *= 10
		out = append(out, n, n/2, n+n/2)
	}
	for _, n := range slices.Clone(out) {
		for d := range int64(4) {
			out = append(out, n+d, n-d, -n+d, -n-d)
		}
	}
	slices.Sort(out)
	return slices.Compact(out)
}

func TestSumsAgainstWholeNumbers(t *testing.T) {
	list := edges()
	for _, a := range list {
		for _, b := range list {
			checkPair(t, a, b)
		}
	}
	rnd := rand.New(rand.NewPCG(1, 2))
	for n := range 20000 {
		checkPair(t, anyAmount(rnd), anyAmount(rnd))
		some := make([]int64, n%9)
		for i := range some {
			some[i] = anyAmount(rnd)
		}
		want, wantErr := modelSum(some)
		if got, err := money.Sum(some...); got != want || err != wantErr {
			t.Fatalf("Sum(%d): %d, %v, want %d, %v", some, got, err, want, wantErr)
		}
	}
}

func checkPair(t *testing.T, a, b int64) {
	t.Helper()
	want, wantErr := fitted(new(big.Int).Add(whole(a), whole(b)))
	if got, err := money.Add(a, b); got != want || err != wantErr {
		t.Fatalf("Add(%d, %d): %d, %v, want %d, %v", a, b, got, err, want, wantErr)
	}
	if got, err := money.Sum(a, b); got != want || err != wantErr {
		t.Fatalf("Sum(%d, %d): %d, %v, want %d, %v", a, b, got, err, want, wantErr)
	}
	want, wantErr = fitted(new(big.Int).Sub(whole(a), whole(b)))
	if got, err := money.Sub(a, b); got != want || err != wantErr {
		t.Fatalf("Sub(%d, %d): %d, %v, want %d, %v", a, b, got, err, want, wantErr)
	}
}

// rates are all that a test goes through where all that there are would take too long.
func rates(rnd *rand.Rand) []int {
	out := []int{-1, 0, 1, 2, 3, 100, 150, 2500, 3333, 4999, 5000, 5001, 6667, 9998, 9999, 10000, 10001}
	for range 20 {
		out = append(out, rnd.IntN(10001))
	}
	return out
}

func TestRateAgainstWholeNumbers(t *testing.T) {
	rnd := rand.New(rand.NewPCG(3, 4))
	amounts := edges()
	for range 3000 {
		amounts = append(amounts, anyAmount(rnd))
	}
	for n := range int64(300) {
		amounts = append(amounts, n*50, -n*50, n, -n)
	}
	for _, a := range amounts {
		for _, rate := range rates(rnd) {
			checkRate(t, a, rate)
		}
	}
	for rate := range 10001 {
		for _, a := range []int64{1, 5000, 10000, -10000, 30000, 12345, greatest, least} {
			checkRate(t, a, rate)
		}
	}
}

// checkRate asks for what the chapter's words say, and for what P4.4 says of a single amount.
func checkRate(t *testing.T, a int64, rate int) {
	t.Helper()
	want, wantErr := modelRate(a, rate)
	got, err := money.Rate(a, rate)
	if got != want || err != wantErr {
		t.Fatalf("Rate(%d, %d): %d, %v, want %d, %v", a, rate, got, err, want, wantErr)
	}
	if err != nil {
		return
	}
	away := new(big.Int).Sub(times(got, 10000), times(a, rate))
	if away.CmpAbs(whole(5000)) > 0 {
		t.Fatalf("Rate(%d, %d): %d is more than a half away", a, rate, got)
	}
	if rate == 0 && got != 0 || rate == 10000 && got != a {
		t.Fatalf("Rate(%d, %d): %d", a, rate, got)
	}
	if a == least {
		return
	}
	if turned, err := money.Rate(-a, rate); turned != -got || err != nil {
		t.Fatalf("Rate(%d, %d): %d, %v, and of the amount turned %d", -a, rate, turned, err, got)
	}
}

func TestRateDoesNotFall(t *testing.T) {
	rnd := rand.New(rand.NewPCG(5, 6))
	for _, rate := range rates(rnd) {
		if rate < 0 || rate > 10000 {
			continue
		}
		amounts := edges()
		for n := range int64(2000) {
			amounts = append(amounts, n-1000, anyAmount(rnd))
		}
		slices.Sort(amounts)
		last := int64(least)
		for _, a := range amounts {
			got, err := money.Rate(a, rate)
			if got < last || err != nil {
				t.Fatalf("Rate(%d, %d): %d, %v, and of a smaller amount %d", a, rate, got, err, last)
			}
			last = got
		}
	}
	for _, a := range []int64{0, 1, 2, 3, 4999, 5000, 10000, 15000, 123456789, 1 << 62, greatest} {
		last := int64(0)
		for rate := range 10001 {
			got, err := money.Rate(a, rate)
			if got < last || err != nil {
				t.Fatalf("Rate(%d, %d): %d, %v, and at a smaller rate %d", a, rate, got, err, last)
			}
			last = got
		}
	}
}

// anyWeights have unlike sizes; now and then one is out of range, or all are 0.
func anyWeights(rnd *rand.Rand, size int) []int {
	most := []int{1, 2, 4, 10, 1000, 1000001}[rnd.IntN(6)]
	out := make([]int, size)
	for i := range out {
		out[i] = rnd.IntN(most)
	}
	if size > 0 && rnd.IntN(20) == 0 {
		out[rnd.IntN(size)] = []int{-1, 1000000, 1000001}[rnd.IntN(3)]
	}
	return out
}

func TestSplitAgainstWholeNumbers(t *testing.T) {
	rnd := rand.New(rand.NewPCG(7, 8))
	for n := range 30000 {
		amount := anyAmount(rnd)
		if amount < 0 && rnd.IntN(10) > 0 {
			amount = ^amount
		}
		checkSplit(t, amount, anyWeights(rnd, n%9))
	}
	for n := range 300 {
		checkSplit(t, rnd.Int64N(5000), anyWeights(rnd, n))
		checkSplit(t, rnd.Int64(), anyWeights(rnd, n))
	}
}

func TestSplitByAllSmallWeights(t *testing.T) {
	for n := range 5 * 5 * 5 * 5 {
		weights := []int{n % 5, n / 5 % 5, n / 25 % 5, n / 125}
		for amount := int64(-1); amount < 40; amount++ {
			checkSplit(t, amount, weights)
			checkSplit(t, amount, weights[:3])
		}
	}
}

// checkSplit asks for what the chapter's words say, and for what P4.3 says.
func checkSplit(t *testing.T, amount int64, weights []int) {
	t.Helper()
	want, wantErr := modelSplit(amount, weights)
	got, err := money.Split(amount, weights)
	if !slices.Equal(got, want) || err != wantErr {
		t.Fatalf("Split(%d, %d): %d, %v, want %d, %v", amount, weights, got, err, want, wantErr)
	}
	if err != nil {
		return
	}
	sum, all := new(big.Int), 0
	for i, share := range got {
		sum.Add(sum, whole(share))
		all += weights[i]
	}
	if len(got) != len(weights) || sum.Cmp(whole(amount)) != 0 {
		t.Fatalf("Split(%d, %d): %d come to %d", amount, weights, got, sum)
	}
	for i, share := range got {
		exact := new(big.Int).Div(times(amount, weights[i]), whole(int64(all))).Int64()
		if share < 0 || share != exact && share != exact+1 || weights[i] == 0 && share != 0 {
			t.Fatalf("Split(%d, %d): %d, and the share at %d is exactly %d or above", amount, weights, got, i, exact)
		}
	}
	checkGreaterGetNotLess(t, weights, got)
}

func checkGreaterGetNotLess(t *testing.T, weights []int, shares []int64) {
	t.Helper()
	for i := range weights {
		for j := range weights {
			if weights[i] > weights[j] && shares[i] < shares[j] {
				t.Fatalf("the weights %d get %d", weights, shares)
			}
		}
	}
}

func TestTextsAndBack(t *testing.T) {
	rnd := rand.New(rand.NewPCG(9, 10))
	amounts := edges()
	for range 20000 {
		amounts = append(amounts, anyAmount(rnd))
	}
	for n := int64(-1100); n <= 1100; n++ {
		amounts = append(amounts, n)
	}
	for _, a := range amounts {
		for digits := -1; digits <= 7; digits++ {
			s := money.Text(a, digits)
			if want := modelText(whole(a), digits); s != want {
				t.Fatalf("Text(%d, %d): %q, want %q", a, digits, s, want)
			}
			if digits < 0 || digits > 6 {
				continue
			}
			if got, err := money.Parse(s, digits); got != a || err != nil {
				t.Fatalf("Parse(%q, %d): %d, %v, want %d", s, digits, got, err, a)
			}
		}
	}
}

// checkParse asks for what the chapter's words say, and whether what is taken is the Text of the answer.
func checkParse(t *testing.T, s string, digits int) {
	t.Helper()
	want, wantErr := modelParse(s, digits)
	got, err := money.Parse(s, digits)
	if got != want || err != wantErr {
		t.Fatalf("Parse(%q, %d): %d, %v, want %d, %v", s, digits, got, err, want, wantErr)
	}
	if err == nil && money.Text(got, digits) != s {
		t.Fatalf("Parse(%q, %d): %d, whose Text is %q", s, digits, got, money.Text(got, digits))
	}
}

// allTexts are the texts of at most so many of these bytes.
func allTexts(letters string, most int) []string {
	out := []string{""}
	last := out
	for range most {
		var next []string
		for _, s := range last {
			for i := range len(letters) {
				next = append(next, s+letters[i:i+1])
			}
		}
		out, last = append(out, next...), next
	}
	return out
}

func TestParseOfAllShortTexts(t *testing.T) {
	for _, s := range allTexts("-.01", 7) {
		for digits := range 7 {
			checkParse(t, s, digits)
		}
	}
	for _, s := range allTexts("-+._ 0179e,", 4) {
		for digits := range 4 {
			checkParse(t, s, digits)
		}
	}
}

func TestParseOfTextsWithASlip(t *testing.T) {
	for digits := range 7 {
		for _, a := range []int64{0, -5, 7, 1050, -123456789, greatest, least} {
			s := money.Text(a, digits)
			for at := range len(s) + 1 {
				checkSlips(t, s, at, digits)
			}
		}
	}
}

// checkSlips puts each byte in at that place of s, and in the stead of the one that is there; leaves that one out; and asks with other digits.
func checkSlips(t *testing.T, s string, at, digits int) {
	t.Helper()
	for b := range 256 {
		c := string([]byte{byte(b)})
		checkParse(t, s[:at]+c+s[at:], digits)
		if at < len(s) {
			checkParse(t, s[:at]+c+s[at+1:], digits)
		}
	}
	if at < len(s) {
		checkParse(t, s[:at]+s[at+1:], digits)
	}
	for other := -1; other <= 7; other++ {
		checkParse(t, s[:at], other)
		checkParse(t, s[at:], other)
	}
}

func TestParseRoundTheBounds(t *testing.T) {
	for _, bound := range []*big.Int{whole(least), whole(greatest), new(big.Int).Lsh(whole(1), 64), new(big.Int).Lsh(whole(-1), 64), new(big.Int).Lsh(whole(1), 128)} {
		for d := int64(-20); d <= 20; d++ {
			n := new(big.Int).Add(bound, whole(d))
			for digits := range 7 {
				s := modelText(n, digits)
				want, wantErr := fitted(n)
				if got, err := money.Parse(s, digits); got != want || err != wantErr {
					t.Fatalf("Parse(%q, %d): %d, %v, want %d, %v", s, digits, got, err, want, wantErr)
				}
				checkParse(t, "0"+s, digits)
				checkParse(t, s+"0", digits)
				checkParse(t, s+"x", digits)
			}
		}
	}
}

// TestArgumentsStay asks for rule 5: what is handed in stays as it is, its spare room included.
func TestArgumentsStay(t *testing.T) {
	weights := []int{3, 1, 2, -7, -8}
	was := slices.Clone(weights)
	for _, amount := range []int64{-1, 10, 11} {
		if _, err := money.Split(amount, weights[:3]); (err == nil) != (amount >= 0) {
			t.Fatalf("Split: %v", err)
		}
	}
	if _, err := money.Split(1, weights); err != api.ErrRange {
		t.Fatalf("Split: %v", err)
	}
	if !slices.Equal(weights, was) {
		t.Errorf("the weights are now %d", weights)
	}
	amounts := []int64{greatest, 1, -1, 5, 6}
	if _, err := money.Sum(amounts[:2]...); err != api.ErrOverflow {
		t.Errorf("Sum: %v", err)
	}
	if !slices.Equal(amounts, []int64{greatest, 1, -1, 5, 6}) {
		t.Errorf("the amounts are now %d", amounts)
	}
	list := []api.Currency{{Code: "EUR", Digits: 2}, {Code: "JPY"}}
	if c, ok := money.Find(list[:1], "JPY"); ok {
		t.Errorf("Find: %v, from the spare room", c)
	}
	if c, ok := money.Find(list, "JPY"); !ok || c != list[1] {
		t.Errorf("Find: %v, %v", c, ok)
	}
	if !slices.Equal(list, []api.Currency{{Code: "EUR", Digits: 2}, {Code: "JPY"}}) {
		t.Errorf("the currencies are now %v", list)
	}
}

// TestSharesAreNewMemory asks for rules 5 and 7: what a caller does to one answer is not seen in the next.
func TestSharesAreNewMemory(t *testing.T) {
	weights := []int{3, 3, 1}
	want := []int64{4, 4, 2}
	first, err := money.Split(10, weights)
	if !slices.Equal(first, want) || err != nil {
		t.Fatalf("Split: %d, %v", first, err)
	}
	second, err := money.Split(10, weights)
	spoil(first)
	weights[0] = 0
	if !slices.Equal(second, want) || err != nil {
		t.Errorf("Split: %d, %v, once the first answer was written over", second, err)
	}
	spoil(second)
	if third, err := money.Split(10, []int{3, 3, 1}); !slices.Equal(third, want) || err != nil {
		t.Errorf("Split: %d, %v, once both were written over", third, err)
	}
}

func spoil(list []int64) {
	list = list[:cap(list)]
	for i := range list {
		list[i] = -99
	}
}
