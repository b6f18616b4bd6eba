package checks_test

import (
	"hash/crc32"
	"math/big"
	"math/bits"
	"math/rand/v2"
	"remit/checks"
	"strconv"
	"strings"
	"testing"
)

const (
	onlyDigits = "0123456789"
	both       = onlyDigits + "ABCDEFGHIJKLMNOPQRSTUVWXYZ"
)

// modelExtend is the chapter's way of the register, bit by bit.
func modelExtend(sum uint32, s string) uint32 {
	register := ^sum
	for i := range len(s) {
		register ^= uint32(s[i])
		for range 8 {
			out := register & 1
			register >>= 1
			if out == 1 {
				register ^= 0x82F63B78
			}
		}
	}
	return ^register
}

// modelRest writes the whole number out and divides it.
func modelRest(s string) int {
	var out strings.Builder
	for i := range len(s) {
		out.WriteString(strconv.Itoa(strings.IndexByte(both, s[i])))
	}
	n, _ := new(big.Int).SetString(out.String(), 10)
	return int(n.Mod(n, big.NewInt(97)).Int64())
}

func modelDigits(s string) string {
	n := strconv.Itoa(98 - modelRest(s+"00"))
	return strings.Repeat("0", 2-len(n)) + n
}

func modelLuhn(s string) int {
	sum := 0
	for i := range len(s) {
		counts := int(s[len(s)-1-i] - '0')
		if i%2 == 0 {
			counts *= 2
			if counts > 9 {
				counts -= 9
			}
		}
		sum += counts
	}
	n := 0
	for (sum+n)%10 != 0 {
		n++
	}
	return n
}

func anyBytes(rnd *rand.Rand, size int) []byte {
	raw := make([]byte, size)
	for i := range raw {
		raw[i] = byte(rnd.Uint32())
	}
	return raw
}

func anyOf(rnd *rand.Rand, letters string, size int) string {
	raw := make([]byte, size)
	for i := range raw {
		raw[i] = letters[rnd.IntN(len(letters))]
	}
	return string(raw)
}

// allOf are the texts of 1 to most of these bytes.
func allOf(letters string, most int) []string {
	var out []string
	last := []string{""}
	for range most {
		var next []string
		for _, s := range last {
			for i := range len(letters) {
				next = append(next, s+letters[i:i+1])
			}
		}
		out, last = append(out, next...), next
	}
	return out
}

// numbersAndNames are all short texts of digits and capital letters, and longer ones.
func numbersAndNames(rnd *rand.Rand, longer int) []string {
	out := allOf(both, 2)
	out = append(out, allOf("019AZ", 4)...)
	for range longer {
		out = append(out, anyOf(rnd, both, 1+rnd.IntN(40)), anyOf(rnd, onlyDigits, 1+rnd.IntN(40)))
	}
	return out
}

func TestSumAndExtendAgainstTheRegister(t *testing.T) {
	rnd := rand.New(rand.NewPCG(1, 2))
	for n := range 5000 {
		s, sum := string(anyBytes(rnd, n%300)), rnd.Uint32()
		if got, want := checks.Sum(s), crc32.Checksum([]byte(s), crc32.MakeTable(crc32.Castagnoli)); got != want || got != modelExtend(0, s) {
			t.Fatalf("Sum(% x): %08X, want %08X", s, got, want)
		}
		if got, want := checks.Extend(sum, s), modelExtend(sum, s); got != want {
			t.Fatalf("Extend(%08X, % x): %08X, want %08X", sum, s, got, want)
		}
		cut := rnd.IntN(len(s) + 1)
		if got, want := checks.Extend(checks.Sum(s[:cut]), s[cut:]), checks.Sum(s); got != want {
			t.Fatalf("Extend over % x, cut at %d: %08X, want %08X", s, cut, got, want)
		}
	}
}

func TestSumOfEveryByte(t *testing.T) {
	for b := range 256 {
		for _, sum := range []uint32{0, 0xFFFFFFFF, 0x12345678} {
			c := string([]byte{byte(b)})
			if got, want := checks.Extend(sum, c), modelExtend(sum, c); got != want {
				t.Errorf("Extend(%08X, % x): %08X, want %08X", sum, c, got, want)
			}
		}
	}
}

func TestSumOfALongText(t *testing.T) {
	raw := anyBytes(rand.New(rand.NewPCG(3, 4)), 1<<22)
	want := crc32.Checksum(raw, crc32.MakeTable(crc32.Castagnoli))
	if got := checks.Sum(string(raw)); got != want {
		t.Errorf("%08X, want %08X", got, want)
	}
}

// TestFourTurnedBytes: two sums of one length differ by what the turned bits differ by, one by one; so if the 32 bits of four neighbours are free of each other, no choice of them goes unseen.
func TestFourTurnedBytes(t *testing.T) {
	rnd := rand.New(rand.NewPCG(5, 6))
	for _, size := range []int{4, 5, 9, 64, 256} {
		raw := anyBytes(rnd, size)
		for at := range size - 3 {
			var turns []uint32
			for bit := range 32 {
				turns = append(turns, checks.Sum(string(raw))^checks.Sum(turned(raw, at, 1<<bit)))
			}
			if !free(turns) {
				t.Fatalf("some four bytes at %d of % x may be turned unseen", at, raw)
			}
			checkTurns(t, rnd, raw, at, turns)
		}
	}
}

// turned is raw with these bits turned in the four bytes at that place.
func turned(raw []byte, at int, turn uint32) string {
	out := []byte(string(raw))
	for i := range 4 {
		out[at+i] ^= byte(turn >> (8 * i))
	}
	return string(out)
}

// free tells whether no choice of some of these comes to 0.
func free(turns []uint32) bool {
	var byTop [32]uint32
	for _, x := range turns {
		for x != 0 && byTop[bits.Len32(x)-1] != 0 {
			x ^= byTop[bits.Len32(x)-1]
		}
		if x == 0 {
			return false
		}
		byTop[bits.Len32(x)-1] = x
	}
	return true
}

// checkTurns asks for any turns whether the sum moves, and as its bits tell.
func checkTurns(t *testing.T, rnd *rand.Rand, raw []byte, at int, turns []uint32) {
	t.Helper()
	sum := checks.Sum(string(raw))
	for range 100 {
		turn := rnd.Uint32() >> rnd.IntN(32)
		want := sum
		for bit, x := range turns {
			if turn>>bit&1 == 1 {
				want ^= x
			}
		}
		got := checks.Sum(turned(raw, at, turn))
		if got != want || (got == sum) != (turn == 0) {
			t.Fatalf("% x turned by %08X at %d: %08X, want %08X; it was %08X", raw, turn, at, got, want, sum)
		}
	}
}

func TestOneOrTwoTurnedBytes(t *testing.T) {
	raw := []byte("P000000000001")
	sum := checks.Sum(string(raw))
	for at := range len(raw) - 3 {
		for turn := uint32(1); turn < 1<<16; turn++ {
			if checks.Sum(turned(raw, at, turn)) == sum || checks.Sum(turned(raw, at, turn<<16)) == sum {
				t.Fatalf("%q turned by %04X at %d goes unseen", raw, turn, at)
			}
		}
	}
}

func TestRestDigitsAndFits(t *testing.T) {
	rnd := rand.New(rand.NewPCG(7, 8))
	for _, s := range numbersAndNames(rnd, 2000) {
		if got, err := checks.Rest(s); got != modelRest(s) || err != nil {
			t.Fatalf("Rest(%q): %d, %v, want %d", s, got, err, modelRest(s))
		}
		want := modelDigits(s)
		if got, err := checks.Digits(s); got != want || err != nil || want < "02" || want > "98" {
			t.Fatalf("Digits(%q): %q, %v, want %q", s, got, err, want)
		}
		if rest, err := checks.Rest(s + want); rest != 1 || err != nil {
			t.Fatalf("Rest(%q): %d, %v, and it fits", s+want, rest, err)
		}
		for _, end := range allOf(onlyDigits, 2) {
			if got := checks.Fits(s + end); got != modelFits(s+end) || len(end) == 2 && got != (end == want) {
				t.Fatalf("Fits(%q): %v, and the digits are %q", s+end, got, want)
			}
		}
	}
}

// modelFits is over texts of digits and capital letters alone.
func modelFits(s string) bool {
	return len(s) >= 3 && s[len(s)-2:] == modelDigits(s[:len(s)-2])
}

func isDigit(b byte) bool { return strings.IndexByte(onlyDigits, b) >= 0 }

// slips are the texts that come from s by another digit for a digit, or another letter for a letter, or by the exchange of two unlike neighbours of one kind.
func slips(s string) []string {
	var out []string
	for i := range len(s) {
		for j := range len(both) {
			if both[j] != s[i] && isDigit(both[j]) == isDigit(s[i]) {
				out = append(out, s[:i]+both[j:j+1]+s[i+1:])
			}
		}
		if i > 0 && s[i] != s[i-1] && isDigit(s[i]) == isDigit(s[i-1]) {
			out = append(out, s[:i-1]+s[i:i+1]+s[i-1:i]+s[i+1:])
		}
	}
	return out
}

func TestSlipsDoNotFit(t *testing.T) {
	rnd := rand.New(rand.NewPCG(9, 10))
	for _, s := range numbersAndNames(rnd, 500) {
		end, err := checks.Digits(s)
		if err != nil || !checks.Fits(s+end) {
			t.Fatalf("%q with %q, %v: doesn't fit", s, end, err)
		}
		for _, slip := range slips(s + end) {
			if checks.Fits(slip) {
				t.Fatalf("%q fits, and so does %q", s+end, slip)
			}
		}
	}
}

func TestLuhnAgainstTheChapter(t *testing.T) {
	rnd := rand.New(rand.NewPCG(11, 12))
	texts := allOf(onlyDigits, 4)
	for range 3000 {
		texts = append(texts, anyOf(rnd, onlyDigits, 1+rnd.IntN(60)))
	}
	for _, s := range texts {
		if got, err := checks.Luhn(s); got != modelLuhn(s) || err != nil {
			t.Fatalf("Luhn(%q): %d, %v, want %d", s, got, err, modelLuhn(s))
		}
	}
}

func TestLuhnSeesSlips(t *testing.T) {
	rnd := rand.New(rand.NewPCG(13, 14))
	texts := allOf(onlyDigits, 3)
	for range 1000 {
		texts = append(texts, anyOf(rnd, onlyDigits, 1+rnd.IntN(40)))
	}
	for _, s := range texts {
		was, err := checks.Luhn(s)
		if err != nil {
			t.Fatalf("Luhn(%q): %v", s, err)
		}
		for _, slip := range slips(s) {
			got, err := checks.Luhn(slip)
			if err != nil || (got == was) != isNoughtAndNine(s, slip) {
				t.Fatalf("Luhn(%q): %d; of %q: %d, %v", s, was, slip, got, err)
			}
		}
	}
}

// isNoughtAndNine tells whether a 0 and a 9 have changed places, which Luhn's digit doesn't see.
func isNoughtAndNine(s, slip string) bool {
	at := 0
	for s[at] == slip[at] {
		at++
	}
	if at == len(s)-1 || s[at+1] == slip[at+1] {
		return false
	}
	pair := s[at : at+2]
	return pair == "09" || pair == "90"
}
