package posting_test

import (
	"encoding/binary"
	"fmt"
	"maps"
	"math"
	"math/big"
	"math/rand/v2"
	"regexp"
	"remit/api"
	"remit/ident"
	"remit/posting"
	"slices"
	"strings"
	"testing"
)

// The model says the chapter's words in another way: forms as patterns, numbers by the library, sums without bounds, legs counted in maps.

var (
	idForm     = regexp.MustCompile(`\A#?[A-Za-z0-9._-]+\z`)
	systemForm = regexp.MustCompile(`\A(outside|suspense|clearing|fees)\.[A-Z]{3}\z`)
)

func modelIsAccount(id string) bool {
	return systemForm.MatchString(id) || ident.Check(id) == nil
}

func modelCheck(p api.Posting) error {
	if len(p.Id) > 32 || !idForm.MatchString(p.Id) {
		return api.ErrId
	}
	if p.Tick < 0 || p.Tick > 1<<40 {
		return api.ErrTime
	}
	if len(p.Note) > 255 {
		return api.ErrLimit
	}
	if len(p.Legs) < 2 || len(p.Legs) > 8 {
		return api.ErrLegs
	}
	for _, leg := range p.Legs {
		if !modelIsAccount(leg.Account) {
			return api.ErrAccount
		}
	}
	most := big.NewInt(1 << 62)
	for _, leg := range p.Legs {
		if amount := big.NewInt(leg.Amount); amount.Sign() == 0 || amount.CmpAbs(most) > 0 {
			return api.ErrAmount
		}
	}
	if len(modelSums(p.Legs)) != len(p.Legs) || modelWhole(p.Legs).Sign() != 0 {
		return api.ErrLegs
	}
	return nil
}

// modelBytes are the bytes that a posting has or would have, good or not.
func modelBytes(p api.Posting) string {
	out := binary.AppendUvarint(nil, uint64(len(p.Id)))
	out = append(out, p.Id...)
	out = binary.AppendUvarint(out, uint64(p.Tick))
	out = binary.AppendUvarint(out, uint64(len(p.Note)))
	out = append(out, p.Note...)
	out = binary.AppendUvarint(out, uint64(len(p.Legs)))
	for _, leg := range p.Legs {
		out = binary.AppendUvarint(out, uint64(len(leg.Account)))
		out = append(out, leg.Account...)
		out = binary.AppendVarint(out, leg.Amount)
	}
	return string(out)
}

// isReadable tells whether a reader with the limits of Decode reads the bytes of modelBytes to their end.
func isReadable(p api.Posting) bool {
	if len(p.Id) > 32 || p.Tick < 0 || p.Tick > 1<<40 || len(p.Note) > 255 || len(p.Legs) > 8 {
		return false
	}
	return !slices.ContainsFunc(p.Legs, func(leg api.Leg) bool { return len(leg.Account) > 34 })
}

// modelReader takes forms off the front of s; behind the first refusal it takes nothing.
type modelReader struct {
	s   string
	err error
}

// number takes a varint: the library's, if it is the shortest one.
func (r *modelReader) number(most uint64) uint64 {
	x, size := binary.Uvarint([]byte(r.s))
	switch {
	case r.err != nil:
		return 0
	case size == 0:
		r.err = api.ErrShort
		// A tenth byte above 1 is seen ahead of the end.
		if len(r.s) >= 10 {
			r.err = api.ErrVarint
		}
	case size < 0 || len(binary.AppendUvarint(nil, x)) != size:
		r.err = api.ErrVarint
	case x > most:
		r.err = api.ErrLimit
	default:
		r.s = r.s[size:]
		return x
	}
	return 0
}

func (r *modelReader) text(most uint64) string {
	size := r.number(most)
	if r.err == nil && size > uint64(len(r.s)) {
		r.err = api.ErrShort
	}
	if r.err != nil {
		return ""
	}
	out := r.s[:size]
	r.s = r.s[size:]
	return out
}

func (r *modelReader) signed() int64 {
	x := r.number(math.MaxUint64)
	if x%2 == 1 {
		return -int64(x/2) - 1
	}
	return int64(x / 2)
}

func modelDecode(s string) (api.Posting, error) {
	r := &modelReader{s: s}
	p := api.Posting{Id: r.text(32), Tick: int(r.number(1 << 40)), Note: r.text(255)}
	for range r.number(8) {
		p.Legs = append(p.Legs, api.Leg{Account: r.text(34), Amount: r.signed()})
	}
	if r.err == nil && r.s != "" {
		r.err = api.ErrTail
	}
	if r.err == nil {
		r.err = modelCheck(p)
	}
	if r.err != nil {
		return api.Posting{}, r.err
	}
	return p, nil
}

// modelSums are the sums of the accounts' amounts, of all accounts that have a leg.
func modelSums(lists ...[]api.Leg) map[string]*big.Int {
	sums := map[string]*big.Int{}
	for _, list := range lists {
		for _, leg := range list {
			if sums[leg.Account] == nil {
				sums[leg.Account] = new(big.Int)
			}
			sums[leg.Account].Add(sums[leg.Account], big.NewInt(leg.Amount))
		}
	}
	return sums
}

// modelWhole is the sum of all amounts.
func modelWhole(list []api.Leg) *big.Int {
	sum := new(big.Int)
	for _, leg := range list {
		sum.Add(sum, big.NewInt(leg.Amount))
	}
	return sum
}

func modelMerge(lists [][]api.Leg) ([]api.Leg, error) {
	sums := modelSums(lists...)
	var out []api.Leg
	for _, account := range slices.Sorted(maps.Keys(sums)) {
		if !sums[account].IsInt64() {
			return nil, api.ErrOverflow
		}
		if sums[account].Sign() != 0 {
			out = append(out, leg(account, sums[account].Int64()))
		}
	}
	return out, nil
}

func modelSame(a, b api.Posting) bool {
	count := func(list []api.Leg) map[api.Leg]int {
		out := map[api.Leg]int{}
		for _, leg := range list {
			out[leg]++
		}
		return out
	}
	return a.Id == b.Id && a.Note == b.Note && maps.Equal(count(a.Legs), count(b.Legs))
}

func modelReverse(p api.Posting, id string) api.Posting {
	out := api.Posting{Id: id, Tick: p.Tick, Note: p.Note}
	for _, l := range p.Legs {
		// The low 64 bits of minus the whole number: those of 2^63 are those of -2^63.
		turned := new(big.Int).Neg(big.NewInt(l.Amount))
		if !turned.IsInt64() {
			turned = big.NewInt(math.MinInt64)
		}
		out.Legs = append(out.Legs, leg(l.Account, turned.Int64()))
	}
	return out
}

// checkOne asks every call of one posting.
func checkOne(t *testing.T, p api.Posting) {
	t.Helper()
	want := modelCheck(p)
	if err := posting.Check(p); err != want {
		t.Fatalf("Check(%s): %v, want %v", shown(p), err, want)
	}
	wantBytes := ""
	if want == nil {
		wantBytes = modelBytes(p)
	}
	if s, err := posting.Encode(p); s != wantBytes || err != want {
		t.Fatalf("Encode(%s): %q, %v, want %q, %v", shown(p), s, err, wantBytes, want)
	}
	if isReadable(p) {
		checkBytes(t, modelBytes(p))
	}
	for _, id := range []string{"", p.Id, "#r"} {
		if got := posting.Reverse(p, id); !isSame(got, modelReverse(p, id)) {
			t.Fatalf("Reverse(%s, %q): %s", shown(p), id, shown(got))
		}
	}
}

// checkBytes asks Decode, and Encode of what it takes.
func checkBytes(t *testing.T, s string) {
	t.Helper()
	want, wantErr := modelDecode(s)
	p, err := posting.Decode(s)
	if !isSame(p, want) || err != wantErr {
		t.Fatalf("Decode(%q): %s, %v, want %s, %v", s, shown(p), err, shown(want), wantErr)
	}
	if err != nil {
		return
	}
	if again, err := posting.Encode(p); again != s || err != nil || len(s) > 657 {
		t.Fatalf("Encode(Decode(%q)): %q, %v", s, again, err)
	}
}

// amounts are amounts round all bounds.
func amounts() []int64 {
	const most = api.MaxTotal
	return []int64{0, 1, -1, 2, -2, 100, -100, most, -most, most - 1, 1 - most, most + 1, -most - 1, math.MaxInt64, math.MinInt64, math.MinInt64 + 1}
}

// pick is one of a list.
func pick[T any](rnd *rand.Rand, list []T) T { return list[rnd.IntN(len(list))] }

// goodPosting is a good posting of any size.
func goodPosting(rnd *rand.Rand) api.Posting {
	p := api.Posting{
		Id:   pick(rnd, []string{"d1", "#d1", "-", strings.Repeat("i", 32), "#" + strings.Repeat("i", 31), fmt.Sprint(rnd.Uint64())}),
		Tick: pick(rnd, []int{0, 1, 127, 128, 1 << 40, int(rnd.Int64N(1 << 40))}),
		Note: pick(rnd, []string{"", "rent", "\x00\xff", strings.Repeat("n", rnd.IntN(256)), strings.Repeat("n", 255)}),
	}
	accounts := eight()
	rnd.Shuffle(8, func(i, j int) { accounts[i], accounts[j] = accounts[j], accounts[i] })
	for modelCheck(p) != nil {
		p.Legs = nil
		last := int64(0)
		for i := range 1 + rnd.IntN(7) {
			amount := pick(rnd, []int64{1, -1, api.MaxTotal, -api.MaxTotal, rnd.Int64() >> rnd.IntN(63), -rnd.Int64() >> rnd.IntN(63)})
			p.Legs = append(p.Legs, leg(accounts[i], amount))
			last -= amount
		}
		p.Legs = append(p.Legs, leg(accounts[7], last))
	}
	return p
}

// anyPosting is a good posting with some things about it changed.
func anyPosting(rnd *rand.Rand) api.Posting {
	p := goodPosting(rnd)
	for range rnd.IntN(3) {
		at := rnd.IntN(max(1, len(p.Legs)))
		switch kind := rnd.IntN(9); {
		case kind == 0:
			p.Id = pick(rnd, []string{"", "#", "##", "#d1", "d 1", "d#1", strings.Repeat("a", 33), "#" + strings.Repeat("a", 32)})
		case kind == 1:
			p.Tick = pick(rnd, []int{-1, 1<<40 + 1, math.MaxInt64, math.MinInt64})
		case kind == 2:
			p.Note = strings.Repeat("m", 250+rnd.IntN(10))
		case kind == 3:
			p.Legs = p.Legs[:at]
		case kind == 4:
			p.Legs = append(p.Legs, p.Legs[rnd.IntN(len(p.Legs)+1):]...)
		case len(p.Legs) == 0:
			p.Legs = spread(1, -1)
		case kind == 5:
			p.Legs[at].Account = pick(rnd, []string{"", "a", "fees.eur", "fees.", "outside.EURO", "GB83WEST12345698765432", west, "fees.EUR", strings.Repeat("A", 35)})
		case kind == 6:
			p.Legs[at].Amount = pick(rnd, amounts())
		case kind == 7:
			p.Legs[at].Amount++
		default:
			p.Legs[at].Account = pick(rnd, p.Legs).Account
		}
	}
	return p
}

// P16.1, P16.2: every call, over postings good and not.
func TestAnyPosting(t *testing.T) {
	rnd := rand.New(rand.NewPCG(16, 1))
	good := 0
	for range 30000 {
		p := anyPosting(rnd)
		checkOne(t, p)
		if modelCheck(p) == nil {
			good++
		}
	}
	if good < 3000 || good > 27000 {
		t.Errorf("%d of the postings are good", good)
	}
}

// P16.1: all lists of up to four legs over few accounts and amounts.
func TestAllShortLists(t *testing.T) {
	var all []api.Leg
	for _, account := range []string{west, "fees.EUR", "fees.USD", "x"} {
		for _, amount := range []int64{1, -1, 2, 0} {
			all = append(all, leg(account, amount))
		}
	}
	lists := [][]api.Leg{nil}
	for range 4 {
		for _, list := range lists {
			checkOne(t, with(list...))
		}
		var longer [][]api.Leg
		for _, list := range lists {
			for _, l := range all {
				longer = append(longer, append(slices.Clone(list), l))
			}
		}
		lists = longer
	}
	for _, list := range lists {
		checkOne(t, with(list...))
	}
}

// P16.1: all lists of up to eight legs of one amount each way or another: sums of four and of eight may look like 0 in 64 bits.
func TestAllGreatSums(t *testing.T) {
	for _, amount := range []int64{api.MaxTotal, api.MaxTotal - 1, api.MaxTotal / 2, 1} {
		for size := range 9 {
			for signs := range 1 << size {
				list := spread(slices.Repeat([]int64{amount}, size)...)
				for i := range list {
					if signs>>i&1 == 1 {
						list[i].Amount = -amount
					}
				}
				checkOne(t, with(list...))
			}
		}
	}
}

// P16.1, P16.2: the bytes of good postings with something changed in them: each byte to each other one, cut out, doubled.
func TestChangedBytes(t *testing.T) {
	for at := range len(depositBytes) {
		for b := range 256 {
			checkBytes(t, depositBytes[:at]+string([]byte{byte(b)})+depositBytes[at+1:])
			checkBytes(t, depositBytes[:at]+string([]byte{byte(b)})+depositBytes[at:])
		}
		for upto := at; upto <= len(depositBytes); upto++ {
			checkBytes(t, depositBytes[:at]+depositBytes[upto:])
			checkBytes(t, depositBytes[at:upto])
		}
	}
	rnd := rand.New(rand.NewPCG(16, 2))
	for range 40000 {
		s := []byte(modelBytes(anyPosting(rnd)))
		for range rnd.IntN(3) {
			at := rnd.IntN(len(s) + 1)
			switch rnd.IntN(3) {
			case 0:
				s = slices.Insert(s, at, byte(rnd.Uint32()))
			case 1:
				s = s[:at]
			default:
				if at < len(s) {
					s[at] ^= 1 << rnd.IntN(8)
				}
			}
		}
		checkBytes(t, string(s))
	}
}

// P16.2: there and back, and cut anywhere.
func TestThereAndBack(t *testing.T) {
	rnd := rand.New(rand.NewPCG(16, 3))
	for range 3000 {
		p := goodPosting(rnd)
		checkGood(t, p)
		s, _ := posting.Encode(p)
		checkDecode(t, s[:rnd.IntN(len(s))], api.Posting{}, api.ErrShort)
		checkDecode(t, s+"\x00", api.Posting{}, api.ErrTail)
	}
}

// variants are postings that may or may not say the same as one another.
func variants() []api.Posting {
	a, b, c := leg("a", 1), leg("a", 2), leg("b", 1)
	lists := [][]api.Leg{nil}
	for begin, upto := 0, 1; len(lists) < 40; begin, upto = upto, len(lists) {
		for _, list := range lists[begin:upto] {
			for _, l := range legs(a, b, c) {
				lists = append(lists, append(slices.Clone(list), l))
			}
		}
	}
	var out []api.Posting
	for i, list := range lists {
		out = append(out, api.Posting{Id: "x", Tick: i, Legs: list})
	}
	for _, list := range lists[:13] {
		out = append(out, api.Posting{Id: "y", Legs: list}, api.Posting{Id: "x", Note: "n", Legs: list})
	}
	return out
}

// P16.3: of all pairs and all threes among some postings.
func TestSameParts(t *testing.T) {
	list := variants()
	same := make([][]bool, len(list))
	for i, a := range list {
		for _, b := range list {
			same[i] = append(same[i], posting.Same(a, b))
		}
	}
	for i, a := range list {
		for j, b := range list {
			if want := modelSame(a, b); same[i][j] != want || same[j][i] != want || !same[i][i] {
				t.Fatalf("Same(%s, %s): %v, want %v", shown(a), shown(b), same[i][j], want)
			}
			for k := range list {
				if same[i][j] && same[j][k] && !same[i][k] {
					t.Fatalf("Same isn't passed on from %s over %s to %s", shown(a), shown(b), shown(list[k]))
				}
			}
		}
	}
}

// P16.3: the order of the legs and the tick change nothing; one leg does.
func TestSameInAnyOrder(t *testing.T) {
	rnd := rand.New(rand.NewPCG(16, 4))
	for range 5000 {
		p := anyPosting(rnd)
		q := copied(p)
		q.Tick = int(rnd.Uint64())
		rnd.Shuffle(len(q.Legs), func(i, j int) { q.Legs[i], q.Legs[j] = q.Legs[j], q.Legs[i] })
		checkSame(t, p, p, true)
		checkSame(t, p, q, true)
		if len(q.Legs) > 0 {
			q.Legs[rnd.IntN(len(q.Legs))].Amount += pick(rnd, []int64{0, 1, -1})
			checkSame(t, p, q, modelSame(p, q))
			q.Legs[rnd.IntN(len(q.Legs))] = pick(rnd, q.Legs)
			checkSame(t, p, q, modelSame(p, q))
			checkSame(t, q, with(q.Legs[1:]...), false)
		}
		r := anyPosting(rnd)
		checkSame(t, p, r, modelSame(p, r))
	}
}

// P16.4: there and back again, and nothing is left of both.
func TestReverseOfGood(t *testing.T) {
	rnd := rand.New(rand.NewPCG(16, 5))
	for range 5000 {
		p := goodPosting(rnd)
		id := goodPosting(rnd).Id
		r := posting.Reverse(p, id)
		checkGood(t, r)
		if back := posting.Reverse(r, p.Id); !isSame(back, p) {
			t.Fatalf("%s came back as %s", shown(p), shown(back))
		}
		checkMerge(t, [][]api.Leg{p.Legs, r.Legs}, nil, nil)
		checkMerge(t, [][]api.Leg{slices.Concat(r.Legs, p.Legs)}, nil, nil)
	}
}

// anyLegs are legs of few accounts, whose sums now and then don't fit.
func anyLegs(rnd *rand.Rand) []api.Leg {
	var out []api.Leg
	for range rnd.IntN(12) {
		amount := pick(rnd, []int64{0, 1, -1, math.MaxInt64, math.MinInt64, api.MaxTotal, -api.MaxTotal, rnd.Int64() >> rnd.IntN(63)})
		out = append(out, leg(pick(rnd, []string{"", "a", "a\x00", "b", "c", "é", west}), amount))
	}
	return out
}

// cut is the list cut anywhere, into any number of lists.
func cut(rnd *rand.Rand, list []api.Leg) [][]api.Leg {
	var out [][]api.Leg
	for len(list) > 0 {
		size := rnd.IntN(len(list) + 1)
		out = append(out, list[:size])
		list = list[size:]
	}
	return out
}

// P16.1, P16.5: the legs in any order and in any lists come to the same; what is merged stays as it is.
func TestMergeInAnyOrder(t *testing.T) {
	rnd := rand.New(rand.NewPCG(16, 6))
	refused := 0
	for range 10000 {
		list := anyLegs(rnd)
		want, wantErr := modelMerge([][]api.Leg{list})
		if wantErr != nil {
			refused++
		}
		for range 4 {
			lists := cut(rnd, list)
			checkMerge(t, lists, want, wantErr)
			rnd.Shuffle(len(lists), func(i, j int) { lists[i], lists[j] = lists[j], lists[i] })
			checkMerge(t, lists, want, wantErr)
			rnd.Shuffle(len(list), func(i, j int) { list[i], list[j] = list[j], list[i] })
		}
		checkMerge(t, [][]api.Leg{want}, want, nil)
		checkMerge(t, cut(rnd, want), want, nil)
	}
	if refused < 1000 || refused > 9000 {
		t.Errorf("%d of the lists are refused", refused)
	}
}

// P16.5: what good postings come to sums to 0.
func TestMergeOfGood(t *testing.T) {
	rnd := rand.New(rand.NewPCG(16, 7))
	merged := 0
	for range 5000 {
		var lists [][]api.Leg
		for range rnd.IntN(6) {
			lists = append(lists, goodPosting(rnd).Legs)
		}
		want, wantErr := modelMerge(lists)
		checkMerge(t, lists, want, wantErr)
		if got, err := posting.Merge(lists...); err == nil {
			merged++
			if modelWhole(got).Sign() != 0 {
				t.Fatalf("Merge(%v): %v", lists, got)
			}
		}
	}
	if merged < 1000 {
		t.Errorf("%d merged", merged)
	}
}
