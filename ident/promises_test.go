package ident_test

import (
	"math/big"
	"math/rand/v2"
	"regexp"
	"remit/api"
	"remit/ident"
	"slices"
	"strconv"
	"strings"
	"testing"
)

// The models say the chapter's words in another way: forms as patterns, and check digits as those of the hundred that fit.

var (
	accountForm = regexp.MustCompile(`^[A-Z]{2}[0-9]{2}[0-9A-Z]{1,30}\z`)
	countryForm = regexp.MustCompile(`^[A-Z]{2}\z`)
	bodyForm    = regexp.MustCompile(`^[0-9A-Z]{1,30}\z`)
	idForm      = regexp.MustCompile(`^[A-Za-z0-9._-]{1,32}\z`)
	tokenForm   = regexp.MustCompile(`^P[0-9]{14}\z`)
)

// modelDigits are the check digits of s: from 02 on, the first that make the whole leave 1.
func modelDigits(s string) string {
	var out strings.Builder
	for i := range len(s) {
		out.WriteString(strconv.Itoa(strings.IndexByte(digits+capitals, s[i])))
	}
	whole, _ := new(big.Int).SetString(out.String()+"00", 10)
	rest := int(whole.Mod(whole, big.NewInt(97)).Int64())
	n := 2
	for (rest+n)%97 != 1 {
		n++
	}
	return twoDigits(n)
}

func twoDigits(n int) string { return strconv.Itoa(n/10) + strconv.Itoa(n%10) }

func modelCheck(s string) error {
	if !accountForm.MatchString(s) {
		return api.ErrForm
	}
	if s[2:4] != modelDigits(s[4:]+s[:2]) {
		return api.ErrDigits
	}
	return nil
}

func modelNormal(s string) (string, error) {
	for i := range len(smalls) {
		s = strings.ReplaceAll(s, smalls[i:i+1], capitals[i:i+1])
	}
	s = strings.Join(strings.Split(s, " "), "")
	if err := modelCheck(s); err != nil {
		return "", err
	}
	return s, nil
}

func modelMake(country, body string) (string, error) {
	if !countryForm.MatchString(country) || !bodyForm.MatchString(body) {
		return "", api.ErrForm
	}
	return country + modelDigits(body+country) + body, nil
}

func modelMask(s string) string {
	out := ""
	for i := range len(s) {
		if len(s) > 8 && (i < 4 || i >= len(s)-4) {
			out += s[i : i+1]
		} else {
			out += "*"
		}
	}
	return out
}

func modelId(s string) error {
	if !idForm.MatchString(s) {
		return api.ErrId
	}
	return nil
}

func modelToken(number int) (string, error) {
	if number < 1 || number > 999999999999 {
		return "", api.ErrRange
	}
	// The 1 above the number puts noughts ahead of it.
	s := "P" + strconv.Itoa(1000000000000 + number)[1:]
	return s + modelDigits(s), nil
}

func modelNumber(token string) (int, error) {
	if !tokenForm.MatchString(token) {
		return 0, api.ErrForm
	}
	if token[13:] != modelDigits(token[:13]) {
		return 0, api.ErrDigits
	}
	number, _ := new(big.Int).SetString(token[1:13], 10)
	if number.Sign() == 0 {
		return 0, api.ErrForm
	}
	return int(number.Int64()), nil
}

func checkMake(t *testing.T, country, body string) {
	t.Helper()
	want, wantErr := modelMake(country, body)
	if got, err := ident.Make(country, body); got != want || err != wantErr {
		t.Fatalf("Make(%q, %q): %q, %v, want %q, %v", country, body, got, err, want, wantErr)
	}
}

// checkAccount asks Check, Normal and Mask of s.
func checkAccount(t *testing.T, s string) {
	t.Helper()
	if got, want := ident.Check(s), modelCheck(s); got != want {
		t.Fatalf("Check(%q): %v, want %v", s, got, want)
	}
	want, wantErr := modelNormal(s)
	if got, err := ident.Normal(s); got != want || err != wantErr {
		t.Fatalf("Normal(%q): %q, %v, want %q, %v", s, got, err, want, wantErr)
	}
	if got, want := ident.Mask(s), modelMask(s); got != want {
		t.Fatalf("Mask(%q): %q, want %q", s, got, want)
	}
}

// checkToken asks Number of s, and whether what it takes is the Token of its answer.
func checkToken(t *testing.T, s string) {
	t.Helper()
	want, wantErr := modelNumber(s)
	got, err := ident.Number(s)
	if got != want || err != wantErr {
		t.Fatalf("Number(%q): %d, %v, want %d, %v", s, got, err, want, wantErr)
	}
	if err != nil {
		return
	}
	if back, err := ident.Token(got); back != s || err != nil {
		t.Fatalf("Number(%q): %d, whose Token is %q, %v", s, got, back, err)
	}
}

func anyOf(rnd *rand.Rand, letters string, size int) string {
	raw := make([]byte, size)
	for i := range raw {
		raw[i] = letters[rnd.IntN(len(letters))]
	}
	return string(raw)
}

// anyBody has each length, and is of digits, of letters, or of both.
func anyBody(rnd *rand.Rand, size int) string {
	return anyOf(rnd, []string{digits, capitals, digits + capitals, "09", "AZ"}[rnd.IntN(5)], size)
}

// anyNumbers are so many account numbers of each length, made by Make.
func anyNumbers(t *testing.T, rnd *rand.Rand, each int) []string {
	var out []string
	for size := 1; size <= 30; size++ {
		for range each {
			s, err := ident.Make(anyOf(rnd, capitals, 2), anyBody(rnd, size))
			if err != nil || len(s) != size+4 {
				t.Fatalf("Make: %q, %v", s, err)
			}
			out = append(out, s)
		}
	}
	return out
}

// anyToken has any number of digits.
func anyToken(rnd *rand.Rand) int {
	most := 1
	for range 1 + rnd.IntN(12) {
		most *= 10
	}
	return 1 + rnd.IntN(most-1)
}

func TestCallsAgainstTheChapter(t *testing.T) {
	rnd := rand.New(rand.NewPCG(1, 2))
	for range 300 {
		for size := range 33 {
			checkMake(t, anyOf(rnd, capitals, 2), anyBody(rnd, size))
			checkMake(t, anyOf(rnd, capitals+"a1 ", rnd.IntN(4)), anyOf(rnd, digits+capitals+"z", size))
			checkAccount(t, anyOf(rnd, capitals, 2)+anyOf(rnd, digits, 2)+anyBody(rnd, size))
			checkAccount(t, anyOf(rnd, capitals+smalls+digits+"  -", size))
		}
		raw := anyOf(rnd, "P0123456789 \x00\xffp", rnd.IntN(20))
		checkAccount(t, raw)
		checkToken(t, raw)
		if got, want := ident.Id(raw), modelId(raw); got != want {
			t.Fatalf("Id(%q): %v, want %v", raw, got, want)
		}
	}
}

func TestIdsAgainstTheChapter(t *testing.T) {
	rnd := rand.New(rand.NewPCG(3, 4))
	for n := range 20000 {
		s := anyOf(rnd, capitals+smalls+digits+"._-", n%40)
		if n%3 == 0 && s != "" {
			at := rnd.IntN(len(s))
			s = s[:at] + string([]byte{byte(rnd.IntN(256))}) + s[at+1:]
		}
		if got, want := ident.Id(s), modelId(s); got != want {
			t.Fatalf("Id(%q): %v, want %v", s, got, want)
		}
	}
}

// loosened is s with blanks put in anywhere, and some or all of its letters made small.
func loosened(rnd *rand.Rand, s string, small int) string {
	var out []byte
	for i := range len(s) {
		for rnd.IntN(3) == 0 {
			out = append(out, ' ')
		}
		if at := strings.IndexByte(capitals, s[i]); at >= 0 && rnd.IntN(4) < small {
			out = append(out, smalls[at])
		} else {
			out = append(out, s[i])
		}
	}
	for rnd.IntN(3) == 0 {
		out = append(out, ' ')
	}
	return string(out)
}

// TestMadeNumbersPass asks for P5.2.
func TestMadeNumbersPass(t *testing.T) {
	rnd := rand.New(rand.NewPCG(5, 6))
	for _, s := range anyNumbers(t, rnd, 200) {
		if err := ident.Check(s); err != nil {
			t.Fatalf("Check(%q): %v", s, err)
		}
		for _, text := range []string{s, strings.ToLower(s), loosened(rnd, s, 0), loosened(rnd, s, 2), loosened(rnd, s, 4)} {
			if got, err := ident.Normal(text); got != s || err != nil {
				t.Fatalf("Normal(%q): %q, %v, want %q", text, got, err, s)
			}
		}
	}
}

// slips are the texts that come from s by another digit for a digit, or by the exchange of two unlike neighbouring digits.
func slips(s string) []string {
	var out []string
	for i := range len(s) {
		if !strings.Contains(digits, s[i:i+1]) {
			continue
		}
		for j := range len(digits) {
			if digits[j] != s[i] {
				out = append(out, s[:i]+digits[j:j+1]+s[i+1:])
			}
		}
		if i > 0 && s[i] != s[i-1] && strings.Contains(digits, s[i-1:i]) {
			out = append(out, s[:i-1]+s[i:i+1]+s[i-1:i]+s[i+1:])
		}
	}
	return out
}

// TestSlipsDoNotPass asks for P5.3. The check digits stand ahead of the body, and count behind it: so a digit of theirs and the body's first are neighbours only in the text.
func TestSlipsDoNotPass(t *testing.T) {
	rnd := rand.New(rand.NewPCG(7, 8))
	list := anyNumbers(t, rnd, 40)
	for _, x := range numbers {
		list = append(list, x.want)
	}
	for _, s := range list {
		for _, slip := range slips(s) {
			if err := ident.Check(slip); err != api.ErrDigits {
				t.Fatalf("%q passes, and of %q: %v", s, slip, err)
			}
			if got, err := ident.Normal(slip); got != "" || err != api.ErrDigits {
				t.Fatalf("%q passes, and of %q: %q, %v", s, slip, got, err)
			}
		}
	}
}

// TestSlipsAreNoTokens asks for P5.3.
func TestSlipsAreNoTokens(t *testing.T) {
	rnd := rand.New(rand.NewPCG(9, 10))
	for n := range 3000 {
		number := n + 1
		if n >= 1000 {
			number = anyToken(rnd)
		}
		token, err := ident.Token(number)
		if err != nil {
			t.Fatalf("Token(%d): %v", number, err)
		}
		for _, slip := range slips(token) {
			got, err := ident.Number(slip)
			if got != 0 || err != api.ErrDigits {
				t.Fatalf("%q is the token of %d, and %q of %d, %v", token, number, slip, got, err)
			}
		}
	}
}

// someNumbers rise, and have the powers of ten and the bounds among them.
func someNumbers(rnd *rand.Rand) []int {
	out := []int{999999999998, 999999999999}
	for n := 1; n < 999999999999; n *= 10 {
		out = append(out, n, n+1, n*10-1, 2*n, 9*n)
	}
	for n := range 3000 {
		out = append(out, n+1, anyToken(rnd))
	}
	slices.Sort(out)
	return slices.Compact(out)
}

// TestTokensAndBack asks for P5.4, and whether tokens are as the chapter says.
func TestTokensAndBack(t *testing.T) {
	last := ""
	for _, number := range someNumbers(rand.New(rand.NewPCG(11, 12))) {
		token, err := ident.Token(number)
		want, wantErr := modelToken(number)
		if token != want || err != wantErr || err != nil {
			t.Fatalf("Token(%d): %q, %v, want %q, %v", number, token, err, want, wantErr)
		}
		if back, err := ident.Number(token); back != number || err != nil {
			t.Fatalf("Number(%q): %d, %v, want %d", token, back, err, number)
		}
		if token <= last {
			t.Fatalf("%q, of %d, stands behind %q", token, number, last)
		}
		last = token
	}
}

// TestAllEndsOfTokens asks which of the hundred ends Number takes.
func TestAllEndsOfTokens(t *testing.T) {
	rnd := rand.New(rand.NewPCG(13, 14))
	for n := range 2000 {
		start := "P" + anyOf(rnd, digits, 12)
		if n < 200 {
			start = "P" + strconv.Itoa(1000000000000 + n)[1:]
		}
		taken := 0
		for end := range 100 {
			checkToken(t, start+twoDigits(end))
			if _, err := ident.Number(start + twoDigits(end)); err == nil {
				taken++
			}
		}
		if want := min(n, 1); taken != want {
			t.Fatalf("of the tokens with %q %d are taken", start, taken)
		}
	}
}

// TestAllEndsOfNumbers asks which of the hundred check digits of a country and a body pass.
func TestAllEndsOfNumbers(t *testing.T) {
	rnd := rand.New(rand.NewPCG(15, 16))
	for n := range 2000 {
		country, body := anyOf(rnd, capitals, 2), anyBody(rnd, 1+n%30)
		passed := 0
		for at := range 100 {
			s := country + twoDigits(at) + body
			checkAccount(t, s)
			if ident.Check(s) == nil {
				passed++
			}
		}
		if passed != 1 {
			t.Fatalf("of the numbers of %q and %q %d pass", country, body, passed)
		}
	}
}
