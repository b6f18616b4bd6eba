package keys_test

import (
	"math"
	"math/rand/v2"
	"regexp"
	"remit/api"
	"remit/keys"
	"slices"
	"strings"
	"testing"
)

// someParts are the parts among which an order or a beginning could go wrong, in the order of parts.
func someParts() []api.Part {
	var out []api.Part
	for _, n := range []int64{math.MinInt64, -1, 0, 1, math.MaxInt64} {
		out = append(out, number(n))
	}
	texts := allTexts("\x00\x01\x02\xff", 2)
	slices.Sort(texts)
	for _, s := range texts {
		out = append(out, text(s))
	}
	return out
}

// allTexts are the texts of at most most of these bytes.
func allTexts(letters string, most int) []string {
	out := []string{""}
	last := out
	for range most {
		var next []string
		for _, s := range last {
			for i := range len(letters) {
				next = append(next, s+letters[i:i+1])
			}
		}
		out, last = append(out, next...), next
	}
	return out
}

// allLists are the lists of at most two parts, in the order of lists, as their places among the parts tell it.
func allLists(parts []api.Part) [][]api.Part {
	out := [][]api.Part{nil}
	for _, p := range parts {
		out = append(out, list(p))
		for _, q := range parts {
			out = append(out, list(p, q))
		}
	}
	return out
}

func isBeginning(a, b []api.Part) bool {
	return len(a) <= len(b) && slices.Equal(seenAll(a), seenAll(b[:len(a)]))
}

func TestOrderAndBeginningsOfAllShortLists(t *testing.T) {
	lists := allLists(someParts())
	joined := make([]string, len(lists))
	for i, a := range lists {
		joined[i] = keys.Join(a...)
		back, err := keys.Split(joined[i])
		if err != nil || !slices.Equal(back, a) {
			t.Fatalf("Split(% x): %v, %v, want %v", joined[i], back, err, a)
		}
	}
	for i, a := range lists {
		for j, b := range lists {
			want := 0
			if i != j {
				want = 1 - 2*boolean(i < j)
			}
			if got := keys.Compare(a, b); got != want {
				t.Fatalf("Compare(%v, %v): %d, want %d", a, b, got, want)
			}
			if got := strings.Compare(joined[i], joined[j]); got != want {
				t.Fatalf("the keys of %v and %v: %d, want %d", a, b, got, want)
			}
			if got := strings.HasPrefix(joined[j], joined[i]); got != isBeginning(a, b) {
				t.Fatalf("the key of %v begins with that of %v: %v", b, a, got)
			}
		}
	}
}

func boolean(b bool) int {
	if b {
		return 1
	}
	return 0
}

// modelCompare is the chapter's order, said again place by place.
func modelCompare(a, b []api.Part) int {
	for i := 0; i < len(a) && i < len(b); i++ {
		p, q := seen(a[i]), seen(b[i])
		if p == q {
			continue
		}
		ahead := p.S < q.S
		if p.Number || q.Number {
			ahead = p.Number && (!q.Number || p.N < q.N)
		}
		return 1 - 2*boolean(ahead)
	}
	return boolean(len(a) > len(b)) - boolean(len(a) < len(b))
}

func anyPart(rnd *rand.Rand) api.Part {
	raw := make([]byte, rnd.IntN(12))
	for i := range raw {
		raw[i] = "\x00\x00\x01\x02\x7f\x80\xfe\xff\xff"[rnd.IntN(9)]
	}
	n := int64(rnd.Uint64()) >> rnd.IntN(64)
	return api.Part{Number: rnd.IntN(2) == 0, N: n, S: string(raw)}
}

// anyLists are two lists that often begin alike.
func anyLists(rnd *rand.Rand) ([]api.Part, []api.Part) {
	var a, b []api.Part
	for range rnd.IntN(6) {
		a = append(a, anyPart(rnd))
	}
	b = append(b, a[:rnd.IntN(len(a)+1)]...)
	for range rnd.IntN(3) {
		b = append(b, anyPart(rnd))
	}
	return a, b
}

func TestAnyLists(t *testing.T) {
	rnd := rand.New(rand.NewPCG(7, 8))
	for range 50000 {
		a, b := anyLists(rnd)
		checkOrder(t, a, b, modelCompare(a, b))
		checkOrder(t, a, a, 0)
		one, other := keys.Join(a...), keys.Join(b...)
		if got := strings.HasPrefix(other, one); got != isBeginning(a, b) {
			t.Fatalf("the key of %v begins with that of %v: %v", b, a, got)
		}
		back, err := keys.Split(one)
		if err != nil || !slices.Equal(back, seenAll(a)) {
			t.Fatalf("Split(% x): %v, %v, want %v", one, back, err, a)
		}
		if t.Failed() {
			return
		}
	}
}

// isKey is what a key looks like, a byte standing as the rune of its number.
var isKey = regexp.MustCompile(`(?s)^(\x01.{8}|\x02([^\x00]|\x00\x{ff})*\x00\x01)*$`)

func asRunes(s string) string {
	runes := make([]rune, len(s))
	for i := range len(s) {
		runes[i] = rune(s[i])
	}
	return string(runes)
}

func checkSplit(t *testing.T, s string) {
	t.Helper()
	parts, err := keys.Split(s)
	if !isKey.MatchString(asRunes(s)) {
		if err != api.ErrForm || len(parts) != 0 {
			t.Fatalf("Split(% x): %v, %v, and it is no key", s, parts, err)
		}
		return
	}
	if err != nil || keys.Join(parts...) != s || !slices.Equal(parts, seenAll(parts)) {
		t.Fatalf("Split(% x): %v, %v, whose key is % x", s, parts, err, keys.Join(parts...))
	}
}

func TestSplitOverAllShortTexts(t *testing.T) {
	eight := "\x00\x01\x02\x00\x01\x80\xff\x00"
	for _, s := range allTexts("\x00\x01\x02\x03\xffa", 6) {
		checkSplit(t, s)
	}
	for _, s := range allTexts("\x00\x01\x02\xff", 4) {
		checkSplit(t, "\x01"+eight+s)
		checkSplit(t, "\x01"+eight[:6]+s)
		checkSplit(t, "\x02"+s+"\x00\x01\x01"+eight)
	}
}

func TestSplitOverBrokenKeys(t *testing.T) {
	rnd := rand.New(rand.NewPCG(9, 10))
	for range 50000 {
		a, _ := anyLists(rnd)
		raw := []byte(keys.Join(a...))
		if len(raw) == 0 {
			continue
		}
		at := rnd.IntN(len(raw))
		checkSplit(t, string(raw[:at]))
		checkSplit(t, string(raw[at:]))
		raw[at] = "\x00\x01\x02\x03\xfe\xff"[rnd.IntN(6)]
		checkSplit(t, string(raw))
	}
}

func TestAfterBoundsWhatBegins(t *testing.T) {
	texts := allTexts("\x00a\x80\xfe\xff", 4)
	for _, s := range texts {
		after, ok := keys.After(s)
		if ok == (strings.Trim(asRunes(s), "\u00ff") == "") {
			t.Fatalf("After(%q): %q, %v", s, after, ok)
		}
		for _, x := range texts {
			if got := x >= s && (!ok || x < after); got != strings.HasPrefix(x, s) {
				t.Fatalf("%q begins with %q: %v, by After %q, %v", x, s, !got, after, ok)
			}
		}
	}
}

func TestAfterIsTheLeast(t *testing.T) {
	// Every text below After(s) stands at or below s with enough bytes 255 behind it.
	texts := allTexts("\x00a\x80\xfe\xff", 3)
	for _, s := range texts {
		after, ok := keys.After(s)
		if !ok {
			continue
		}
		high := s + strings.Repeat("\xff", 4)
		if after <= high {
			t.Fatalf("After(%q) is %q, not above %q", s, after, high)
		}
		for _, x := range texts {
			if x > high && x < after {
				t.Fatalf("After(%q) is %q, but %q is less", s, after, x)
			}
		}
	}
}

func TestLongKeys(t *testing.T) {
	long := strings.Repeat("\x00", 1<<20)
	parts := slices.Repeat(list(number(7), text("")), 1<<17)
	parts = append(parts, text(long), number(-7))
	back, err := keys.Split(keys.Join(parts...))
	if err != nil || !slices.Equal(back, parts) {
		t.Errorf("%d parts, %v, want %d", len(back), err, len(parts))
	}
}
