package posting_test

import (
	"fmt"
	"math"
	"remit/api"
	"remit/ident"
	"remit/posting"
	"slices"
	"strings"
	"testing"
)

// west is the account number of the chapter's examples.
const west = "GB82WEST12345698765432"

func leg(account string, amount int64) api.Leg { return api.Leg{Account: account, Amount: amount} }

func legs(list ...api.Leg) []api.Leg { return list }

// deposit is the posting of the chapter's examples.
func deposit() api.Posting {
	return api.Posting{Id: "d1", Tick: 5, Note: "deposit", Legs: legs(leg("outside.GBP", -100), leg(west, 100))}
}

// depositBytes are its bytes.
const depositBytes = "\x02d1\x05\x07deposit\x02\x0boutside.GBP\xc7\x01\x16" + west + "\xc8\x01"

// turned is the deposit with something about it changed.
func turned(turn func(p *api.Posting)) api.Posting {
	p := deposit()
	turn(&p)
	return p
}

// with is the deposit with these legs.
func with(list ...api.Leg) api.Posting {
	return turned(func(p *api.Posting) { p.Legs = list })
}

// named is the deposit under another id.
func named(id string) api.Posting {
	return turned(func(p *api.Posting) { p.Id = id })
}

// made is the account number of a country and a body.
func made(country, body string) string {
	id, err := ident.Make(country, body)
	if err != nil {
		panic(err)
	}
	return id
}

// eight are eight accounts of all forms, the longest and the shortest account number among them.
func eight() []string {
	return []string{west, made("ZZ", strings.Repeat("Z", 30)), made("AA", "0"), made("DE", "500105175407324931"), "outside.GBP", "suspense.EUR", "clearing.AAA", "fees.ZZZ"}
}

// spread are legs of these amounts, each of another account.
func spread(amounts ...int64) []api.Leg {
	var out []api.Leg
	for i, amount := range amounts {
		out = append(out, leg(eight()[i], amount))
	}
	return out
}

func isSame(a, b api.Posting) bool {
	return a.Id == b.Id && a.Tick == b.Tick && a.Note == b.Note && slices.Equal(a.Legs, b.Legs)
}

// copied is a posting that shares no list with p.
func copied(p api.Posting) api.Posting {
	p.Legs = slices.Clone(p.Legs)
	return p
}

// shown is a posting as a failure tells it.
func shown(p api.Posting) string {
	return fmt.Sprintf("{%.40q %d %.20q (%d) %.400v}", p.Id, p.Tick, p.Note, len(p.Note), p.Legs)
}

// checkGood asks whether a posting is taken, and whether its bytes tell it again.
func checkGood(t *testing.T, p api.Posting) {
	t.Helper()
	if err := posting.Check(p); err != nil {
		t.Errorf("Check(%s): %v", shown(p), err)
	}
	s, err := posting.Encode(p)
	if err != nil || len(s) > 657 {
		t.Errorf("Encode(%s): %d bytes, %v", shown(p), len(s), err)
	}
	checkDecode(t, s, p, nil)
}

// checkBad asks for a posting's error, of Check and of Encode, and of Decode over the bytes that it would have.
func checkBad(t *testing.T, p api.Posting, want error) {
	t.Helper()
	if err := posting.Check(p); err != want {
		t.Errorf("Check(%s): %v, want %v", shown(p), err, want)
	}
	if s, err := posting.Encode(p); s != "" || err != want {
		t.Errorf("Encode(%s): %q, %v, want %v", shown(p), s, err, want)
	}
	if isReadable(p) {
		checkDecode(t, modelBytes(p), api.Posting{}, want)
	}
}

func checkDecode(t *testing.T, s string, want api.Posting, wantErr error) {
	t.Helper()
	p, err := posting.Decode(s)
	if !isSame(p, want) || err != wantErr {
		t.Errorf("Decode(%q): %s, %v, want %s, %v", s, shown(p), err, shown(want), wantErr)
	}
}

// checkSame asks both ways.
func checkSame(t *testing.T, a, b api.Posting, want bool) {
	t.Helper()
	if posting.Same(a, b) != want || posting.Same(b, a) != want {
		t.Errorf("Same(%s, %s): %v, %v, want %v", shown(a), shown(b), posting.Same(a, b), posting.Same(b, a), want)
	}
}

func checkMerge(t *testing.T, lists [][]api.Leg, want []api.Leg, wantErr error) {
	t.Helper()
	if got, err := posting.Merge(lists...); !slices.Equal(got, want) || err != wantErr {
		t.Errorf("Merge(%v): %v, %v, want %v, %v", lists, got, err, want, wantErr)
	}
}

func TestExamples(t *testing.T) {
	checkGood(t, deposit())
	if s, err := posting.Encode(deposit()); s != depositBytes || err != nil {
		t.Errorf("%q, %v", s, err)
	}
	checkBad(t, named(""), api.ErrId)
	checkBad(t, named("#"), api.ErrId)
	checkGood(t, named("#d1"))
	checkBad(t, turned(func(p *api.Posting) { p.Tick = -1 }), api.ErrTime)
	checkBad(t, with(leg(west, 1)), api.ErrLegs)
	checkBad(t, with(leg("a", 1), leg(west, -1)), api.ErrAccount)
	checkBad(t, with(leg("suspense.eur", 1), leg(west, -1)), api.ErrAccount)
	checkBad(t, with(leg("outside.GBP", 0), leg(west, 0)), api.ErrAmount)
	checkBad(t, with(leg("outside.GBP", -100), leg(west, 101)), api.ErrLegs)
	checkBad(t, with(leg(west, 100), leg(west, -100)), api.ErrLegs)
	checkMerge(t, [][]api.Leg{legs(leg("A", 5), leg("B", 1)), legs(leg("A", -5), leg("B", 2))}, legs(leg("B", 3)), nil)
	checkMerge(t, nil, nil, nil)
	checkMerge(t, [][]api.Leg{legs(leg("A", math.MaxInt64)), legs(leg("A", 1))}, nil, api.ErrOverflow)
	checkMerge(t, [][]api.Leg{legs(leg("A", math.MaxInt64)), legs(leg("A", 1)), legs(leg("A", -1))}, legs(leg("A", math.MaxInt64)), nil)
}

func TestIds(t *testing.T) {
	for _, id := range []string{"a", "#a", "#.", "-", "_", "0", "#0", "Z.z_-9", strings.Repeat("a", 32), "#" + strings.Repeat("a", 31), "#P00000000000177.R"} {
		checkGood(t, named(id))
	}
	for _, id := range []string{
		"", "#", "##", "##a", "a#", "a#b", "#a#", " ", "# ", " #a", "# a", "a b", "a\x00", "\x00", "#\x00", "é", "\xff", "a/b", "a:b", "@", "[", "`", "{",
		strings.Repeat("a", 33), "#" + strings.Repeat("a", 32), strings.Repeat("#", 32), strings.Repeat("a", 100000), "#" + strings.Repeat("a", 100000),
	} {
		checkBad(t, named(id), api.ErrId)
	}
	// Every byte alone, and behind the mark.
	for b := range 256 {
		s := string([]byte{byte(b)})
		isLetter := b >= 'a' && b <= 'z' || b >= 'A' && b <= 'Z'
		may := isLetter || b >= '0' && b <= '9' || b == '.' || b == '_' || b == '-'
		for _, id := range []string{s, "#" + s, "a" + s, "#a" + s} {
			if may {
				checkGood(t, named(id))
			} else {
				checkBad(t, named(id), api.ErrId)
			}
		}
	}
}

func TestTicksAndNotes(t *testing.T) {
	at := func(tick int) api.Posting { return turned(func(p *api.Posting) { p.Tick = tick }) }
	saying := func(note string) api.Posting { return turned(func(p *api.Posting) { p.Note = note }) }
	for _, tick := range []int{0, 1, 127, 128, 1<<32 + 1, api.MaxTick - 1, api.MaxTick} {
		checkGood(t, at(tick))
	}
	for _, tick := range []int{-1, -2, math.MinInt64, math.MinInt64 + 1, -api.MaxTick, api.MaxTick + 1, math.MaxInt64} {
		checkBad(t, at(tick), api.ErrTime)
	}
	for _, note := range []string{"", "\x00", "\xff\xfe", "a note, with blanks", strings.Repeat("n", 127), strings.Repeat("n", 128), strings.Repeat("n", 255), strings.Repeat("é", 127)} {
		checkGood(t, saying(note))
	}
	for _, note := range []string{strings.Repeat("n", 256), strings.Repeat("é", 128), strings.Repeat("n", 100000)} {
		checkBad(t, saying(note), api.ErrLimit)
	}
}

func TestNumberOfLegs(t *testing.T) {
	for _, amounts := range [][]int64{
		{1, -1}, {-1, 2, -1}, {1, 1, 1, -3}, {5, -4, 3, -2, -2}, {1, 2, 3, -4, 5, -7}, {1, 1, 1, 1, 1, 1, -6}, {1, -1, 2, -2, 3, -3, 4, -4}, {7, -1, -1, -1, -1, -1, -1, -1},
	} {
		checkGood(t, with(spread(amounts...)...))
	}
	for _, list := range [][]api.Leg{
		nil, {}, spread(1), spread(0), legs(leg("", 0)), slices.Repeat(spread(1, -1, 1), 3), slices.Repeat(legs(leg("a", 0)), 9), slices.Repeat(spread(1, -1), 50000),
	} {
		checkBad(t, with(list...), api.ErrLegs)
	}
}

func TestAccounts(t *testing.T) {
	for _, account := range eight() {
		if account != "outside.USD" {
			checkGood(t, with(leg("outside.USD", -3), leg(account, 3)))
			checkGood(t, with(leg(account, -3), leg("outside.USD", 3)))
		}
	}
	for _, account := range []string{
		"", ".", "a", "EUR", ".EUR", "..EUR", "outside", "outside.", "outside.EU", "outside.EURO", "outside.eur", "outside.EUr", "outside.E1R", "outside.E.R", "outside.EUR.", "outside..EUR",
		"outside.EUR.EUR", "outside.outside.EUR", "outsideEUR", "Outside.EUR", "OUTSIDE.EUR", "income.EUR", "customer.EUR", "fee.EUR", "feess.EUR", " fees.EUR", "fees.EUR ", "fees. EUR", "fees.EUR\x00", "\x00fees.EUR",
		"fees.\x00\x00\x00", "fees.ÄÖ", "fees.\xff\xff\xff", "suspense.EU\x00", "GB83WEST12345698765432", "GB82WEST12345698765423", strings.ToLower(west), "GB82 WEST 1234 5698 7654 32", west + " ", west + "\x00", "." + west, west + ".EUR",
		"GB82", "GB", made("ZZ", strings.Repeat("Z", 30)) + "Z", strings.Repeat("A", 34), strings.Repeat("9", 35), strings.Repeat("outside.", 10000),
	} {
		for at := range 3 {
			list := spread(1, 2, -3)
			list[at].Account = account
			checkBad(t, with(list...), api.ErrAccount)
		}
	}
}

func TestAmounts(t *testing.T) {
	const most = api.MaxTotal
	for _, amounts := range [][]int64{{most, -most}, {-most, most}, {1 - most, most - 1}, {most, most, -most, -most}, {most, most, most, -most, -most, -most}, {most, most, most, most, -most, -most, -most, -most}, {-most, -most, -most, most - 1, most, most, 1}} {
		checkGood(t, with(spread(amounts...)...))
	}
	for _, amount := range []int64{0, most + 1, -most - 1, math.MaxInt64, math.MinInt64, math.MinInt64 + 1} {
		for at := range 3 {
			amounts := []int64{1, 2, -3}
			amounts[at] = amount
			checkBad(t, with(spread(amounts...)...), api.ErrAmount)
		}
		checkBad(t, with(spread(amount, -amount)...), api.ErrAmount)
		checkBad(t, with(spread(amount, amount)...), api.ErrAmount)
	}
}

// TestSums asks for sums that aren't 0, such among them whose low 64 bits are 0.
func TestSums(t *testing.T) {
	const most = api.MaxTotal
	for _, amounts := range [][]int64{
		{1, 1}, {-1, -1}, {1, -2}, {100, -101}, {1, 2, -4}, {most, most}, {most, 1 - most},
		{most, most, most, most}, {-most, -most, -most, -most}, {most, most, most, most - 1, 1}, {most, most, most, most, most, most, most, most}, {-most, -most, -most, -most, -most, -most, -most, -most},
		{most, most, most, most, 1, -1}, {-most, -most, -most, -most, -1, 2, -1},
	} {
		checkBad(t, with(spread(amounts...)...), api.ErrLegs)
	}
	for i := range 8 {
		for j := range i {
			amounts := []int64{1, -1, 2, -2, 3, -3, 4, -4}
			list := spread(amounts...)
			list[i].Account = list[j].Account
			checkBad(t, with(list...), api.ErrLegs)
		}
	}
	checkBad(t, with(leg(west, 1), leg(west, 1), leg("fees.EUR", -2)), api.ErrLegs)
	checkBad(t, with(leg("fees.EUR", -2), leg(west, 1), leg("fees.EUR", 1)), api.ErrLegs)
	checkBad(t, with(leg("fees.EUR", 1), leg("fees.EUR", 1)), api.ErrLegs)
	checkGood(t, with(leg("fees.EUR", 1), leg("fees.USD", 1), leg("clearing.EUR", -2)))
}

// TestFirstFaultCounts asks for every set of faults: the answer is the error of the one that is looked at first.
func TestFirstFaultCounts(t *testing.T) {
	faults := []struct {
		set func(p *api.Posting)
		err error
	}{
		{func(p *api.Posting) { p.Id = "#" }, api.ErrId},
		{func(p *api.Posting) { p.Tick = -1 }, api.ErrTime},
		{func(p *api.Posting) { p.Note = strings.Repeat("n", 256) }, api.ErrLimit},
		{func(p *api.Posting) { p.Legs = append(p.Legs, spread(1, 1, 1, 1, 1)...) }, api.ErrLegs},
		{func(p *api.Posting) { p.Legs[3].Account = "x" }, api.ErrAccount},
		{func(p *api.Posting) { p.Legs[0].Amount = 0 }, api.ErrAmount},
		{func(p *api.Posting) { p.Legs[1].Account = p.Legs[2].Account }, api.ErrLegs},
		{func(p *api.Posting) { p.Legs[1].Amount = 7 }, api.ErrLegs},
	}
	for set := range 1 << len(faults) {
		p := with(spread(1, 2, 3, -6)...)
		var want error
		for i := len(faults) - 1; i >= 0; i-- {
			if set>>i&1 == 1 {
				faults[i].set(&p)
				want = faults[i].err
			}
		}
		if want == nil {
			checkGood(t, p)
		} else {
			checkBad(t, p, want)
		}
	}
}

// TestDecodeRefuses asks for each refusal of the reader at each place, and for its going ahead of what Check says.
func TestDecodeRefuses(t *testing.T) {
	head, first := "\x02d1\x05\x07deposit\x02", "\x0boutside.GBP\xc7\x01"
	second := "\x16" + west + "\xc8\x01"
	if head+first+second != depositBytes {
		t.Fatal("the parts aren't the whole")
	}
	long := strings.Repeat("a", 300)
	for _, c := range []struct {
		s    string
		want error
	}{
		{"", api.ErrShort}, {"\x00", api.ErrShort}, {"\x00\x00\x00", api.ErrShort}, {"\x80", api.ErrShort}, {"\x02d", api.ErrShort},
		{"\x00\x00\x00\x00", api.ErrId}, {"\x00\x00\x00\x00x", api.ErrTail}, {"\x02d1\x00\x00\x00", api.ErrLegs},
		{"\x80\x00", api.ErrVarint}, {"\x02d1\x85\x00", api.ErrVarint}, {"\x02d1\x05\x87\x00", api.ErrVarint}, {"\x02d1\x05\x07deposit\x82\x00", api.ErrVarint},
		{head + "\x8b\x00", api.ErrVarint}, {head + "\x0boutside.GBP\xc7\x81\x00", api.ErrVarint}, {head + "\x0boutside.GBP" + strings.Repeat("\xff", 10), api.ErrVarint}, {strings.Repeat("\xff", 20), api.ErrVarint},
		{"\x21" + long, api.ErrLimit}, {"\x21", api.ErrLimit}, {"\xff\xff\xff\xff\xff\xff\xff\xff\xff\x01" + long, api.ErrLimit},
		{"\x02d1\x81\x80\x80\x80\x80\x20" + long, api.ErrLimit}, {"\x02d1\xff\xff\xff\xff\xff\xff\xff\xff\xff\x01", api.ErrLimit}, {"\x02d1\x80\x80\x80\x80\x80\x20\x00\x00", api.ErrLegs},
		{"\x02d1\x05\x80\x02" + long, api.ErrLimit}, {"\x02d1\x05\x80\x02", api.ErrLimit}, {"\x02d1\x05\xff\x01" + long[:255] + "\x00", api.ErrLegs}, {"\x02d1\x05\xff\x01" + long[:254], api.ErrShort},
		{"\x02d1\x05\x07deposit\x09" + first + second, api.ErrLimit}, {"\x02d1\x05\x07deposit\xff\xff\xff\xff\xff\xff\xff\xff\xff\x01", api.ErrLimit},
		{"\x02d1\x05\x07deposit\x08" + first + second, api.ErrShort}, {"\x02d1\x05\x07deposit\x01" + first, api.ErrLegs}, {"\x02d1\x05\x07deposit\x01" + first + second, api.ErrTail},
		{head + "\x23" + long[:35] + "\x01" + second, api.ErrLimit}, {head + "\x22" + long[:34] + "\x01" + second, api.ErrAccount}, {head + "\x23", api.ErrLimit}, {head + "\x22" + long[:33], api.ErrShort},
		{head + "\x00\x01" + second, api.ErrAccount}, {head + first + first, api.ErrLegs}, {head + first + second + "\x00", api.ErrTail}, {depositBytes + depositBytes, api.ErrTail},
		{head + "\x0boutside.GBP\x00\x16" + west + "\x00", api.ErrAmount}, {head + "\x0boutside.GBP" + strings.Repeat("\xff", 9) + "\x01" + second, api.ErrAmount},
		{"\x02d " + depositBytes[3:] + "x", api.ErrTail}, {"\x02d " + depositBytes[3:], api.ErrId}, {"\x01#" + depositBytes[3:], api.ErrId}, {"\x03#d1" + depositBytes[3:len(depositBytes)-1], api.ErrShort},
	} {
		checkDecode(t, c.s, api.Posting{}, c.want)
	}
	for size := range len(depositBytes) {
		checkDecode(t, depositBytes[:size], api.Posting{}, api.ErrShort)
	}
}

// TestGreatest asks for the posting with the most bytes that one may have: just four of eight legs can be of the amount whose number is the longest.
func TestGreatest(t *testing.T) {
	p := api.Posting{Id: strings.Repeat("i", 32), Tick: api.MaxTick, Note: strings.Repeat("n", 255)}
	for i := range 8 {
		amount := int64(api.MaxTotal)
		if i%2 == 1 {
			amount = -amount
		}
		p.Legs = append(p.Legs, leg(made("GB", strings.Repeat("Z", 29)+string(rune('A'+i))), amount))
	}
	checkGood(t, p)
	if s, _ := posting.Encode(p); len(s) != 653 {
		t.Errorf("%d bytes", len(s))
	}
}

func TestSame(t *testing.T) {
	checkSame(t, deposit(), deposit(), true)
	checkSame(t, api.Posting{}, api.Posting{}, true)
	checkSame(t, api.Posting{}, api.Posting{Tick: -7, Legs: []api.Leg{}}, true)
	for _, tick := range []int{0, -1, 6, math.MaxInt64, math.MinInt64} {
		checkSame(t, deposit(), turned(func(p *api.Posting) { p.Tick = tick }), true)
	}
	for _, p := range []api.Posting{
		named(""), named("d2"), named("D1"), named("#d1"), named("d1\x00"),
		turned(func(p *api.Posting) { p.Note = "" }), turned(func(p *api.Posting) { p.Note = "deposit " }), turned(func(p *api.Posting) { p.Id, p.Note = p.Note, p.Id }),
		with(), with(deposit().Legs[0]), with(deposit().Legs[1]), with(append(deposit().Legs, deposit().Legs[0])...), with(append(deposit().Legs, leg("", 0))...),
		with(leg("outside.GBP", -100), leg(west, 101)), with(leg("outside.GBP", 100), leg(west, -100)), with(leg("outside.EUR", -100), leg(west, 100)), with(leg(west, -100), leg("outside.GBP", 100)),
	} {
		checkSame(t, deposit(), p, false)
		checkSame(t, p, p, true)
	}
	// Legs that stand several times, in postings that aren't good: how often each stands counts.
	a, b, c := leg("a", 1), leg("a", 2), leg("b", 1)
	for _, list := range [][2][]api.Leg{{legs(a, a, b), legs(a, b, b)}, {legs(a, b), legs(a, b, b)}, {legs(a, a, c), legs(a, c, c)}, {legs(a, c, c, a), legs(a, c, c, c)}, {legs(b, a), legs(a, c)}, {legs(b, c), legs(b, a)}, {legs(a), nil}} {
		checkSame(t, with(list[0]...), with(list[1]...), false)
	}
	for _, list := range [][2][]api.Leg{{legs(a, a, b), legs(b, a, a)}, {legs(a, b, a), legs(a, a, b)}, {legs(a, c, b), legs(c, b, a)}, {legs(c, c, a, b, b), legs(b, c, a, b, c)}, {legs(a, b), legs(b, a)}} {
		checkSame(t, with(list[0]...), with(list[1]...), true)
	}
}

func TestReverse(t *testing.T) {
	for _, c := range []struct {
		p    api.Posting
		id   string
		want api.Posting
	}{
		{deposit(), "d2", api.Posting{Id: "d2", Tick: 5, Note: "deposit", Legs: legs(leg("outside.GBP", 100), leg(west, -100))}},
		{api.Posting{}, "", api.Posting{}},
		{api.Posting{Id: "x", Tick: -3, Note: "\x00", Legs: []api.Leg{}}, "", api.Posting{Tick: -3, Note: "\x00"}},
		{with(leg("b", 0), leg("a", 1), leg("b", 0), leg("", math.MinInt64), leg("a", math.MaxInt64), leg("a", math.MinInt64+1)), strings.Repeat("#", 99),
			api.Posting{Id: strings.Repeat("#", 99), Tick: 5, Note: "deposit", Legs: legs(leg("b", 0), leg("a", -1), leg("b", 0), leg("", math.MinInt64), leg("a", -math.MaxInt64), leg("a", math.MaxInt64))}},
		{with(slices.Repeat(legs(leg("a", 7)), 5000)...), "d1", with(slices.Repeat(legs(leg("a", -7)), 5000)...)},
	} {
		if got := posting.Reverse(c.p, c.id); !isSame(got, c.want) {
			t.Errorf("Reverse(%s, %q): %s, want %s", shown(c.p), c.id, shown(got), shown(c.want))
		}
	}
}

func TestMerge(t *testing.T) {
	const most, least = math.MaxInt64, math.MinInt64
	for _, c := range []struct {
		lists [][]api.Leg
		want  []api.Leg
		err   error
	}{
		{[][]api.Leg{{}}, nil, nil},
		{[][]api.Leg{nil, {}, nil}, nil, nil},
		{[][]api.Leg{{leg("a", 0)}}, nil, nil},
		{[][]api.Leg{{leg("", 1)}}, legs(leg("", 1)), nil},
		{[][]api.Leg{{leg("b", 1), leg("a", 2), leg("b", 3), leg("", 4)}}, legs(leg("", 4), leg("a", 2), leg("b", 4)), nil},
		{[][]api.Leg{{leg("b", 1)}, nil, {leg("a", 1)}, {leg("b", -1), leg("c", -1)}}, legs(leg("a", 1), leg("c", -1)), nil},
		{[][]api.Leg{{leg("\xff", 1), leg("é", 1), leg("b", 1), leg("aa", 1), leg("a\x00", 1), leg("a", 1), leg("B", 1), leg("\x00", 1), leg("", 1)}},
			legs(leg("", 1), leg("\x00", 1), leg("B", 1), leg("a", 1), leg("a\x00", 1), leg("aa", 1), leg("b", 1), leg("é", 1), leg("\xff", 1)), nil},
		{[][]api.Leg{{leg("a", most)}}, legs(leg("a", most)), nil},
		{[][]api.Leg{{leg("a", least)}}, legs(leg("a", least)), nil},
		{[][]api.Leg{{leg("a", least), leg("a", most)}}, legs(leg("a", -1)), nil},
		{[][]api.Leg{{leg("a", least), leg("a", most), leg("a", 1)}}, nil, nil},
		{[][]api.Leg{{leg("a", least), leg("a", least), leg("a", most), leg("a", most), leg("a", 2)}}, nil, nil},
		{[][]api.Leg{{leg("a", least), leg("a", -1)}}, nil, api.ErrOverflow},
		{[][]api.Leg{{leg("a", most), leg("a", 1)}}, nil, api.ErrOverflow},
		{[][]api.Leg{{leg("a", least), leg("a", -1), leg("a", 1)}}, legs(leg("a", least)), nil},
		{[][]api.Leg{{leg("a", -1), leg("a", least)}, {leg("a", 5)}}, legs(leg("a", least+4)), nil},
		// These sums are 2^64 and -2^64: of either the low 64 bits are 0.
		{[][]api.Leg{{leg("a", 1<<62), leg("a", 1<<62), leg("a", 1<<62), leg("a", 1<<62)}}, nil, api.ErrOverflow},
		{[][]api.Leg{{leg("a", least), leg("a", least)}}, nil, api.ErrOverflow},
		// Just one account's sum is too great, whichever.
		{[][]api.Leg{{leg("a", 1), leg("b", most), leg("c", 1)}, {leg("b", 1)}}, nil, api.ErrOverflow},
		{[][]api.Leg{{leg("a", most), leg("b", 1), leg("a", 1)}}, nil, api.ErrOverflow},
		{[][]api.Leg{{leg("a", 1), leg("b", 1), leg("c", least)}, {leg("c", -1)}}, nil, api.ErrOverflow},
		// Two accounts' sums don't touch one another.
		{[][]api.Leg{{leg("a", most), leg("b", most)}, {leg("c", least)}, {leg("d", least)}}, legs(leg("a", most), leg("b", most), leg("c", least), leg("d", least)), nil},
		{[][]api.Leg{slices.Repeat(legs(leg("b", 3), leg("a", -1)), 50000)}, legs(leg("a", -50000), leg("b", 150000)), nil},
	} {
		checkMerge(t, c.lists, c.want, c.err)
	}
	if _, err := posting.Merge(slices.Repeat([][]api.Leg{{leg("a", most)}}, 1000)...); err != api.ErrOverflow {
		t.Error(err)
	}
}

// roomy are the legs with spare room behind them, which holds something.
func roomy(list []api.Leg) []api.Leg {
	all := slices.Concat(list, legs(leg("spare", 7), leg("room", 8)))
	return all[:len(list)]
}

// whole is a list with its spare room.
func whole(list []api.Leg) []api.Leg { return list[:cap(list)] }

// TestArgumentsStay asks every call whether it changes what it was handed, spare room included.
func TestArgumentsStay(t *testing.T) {
	for _, list := range [][]api.Leg{
		{}, spread(3, 2, 1, -6), legs(leg("c", 1), leg("a", math.MinInt64), leg("b", 2), leg("a", 1)), legs(leg("fees.EUR", 5), leg("clearing.EUR", -5)),
	} {
		a, b := with(roomy(list)...), with(roomy(list)...)
		lists := [][]api.Leg{a.Legs, b.Legs, {leg("z", 1)}}
		before := slices.Clone(whole(a.Legs))
		posting.Check(a)
		posting.Encode(a)
		posting.Same(a, b)
		posting.Reverse(a, "r")
		posting.Merge(a.Legs)
		posting.Merge(lists[:2]...)
		for _, got := range []api.Posting{a, b} {
			if got.Id != "d1" || got.Tick != 5 || got.Note != "deposit" || len(got.Legs) != len(list) || !slices.Equal(whole(got.Legs), before) {
				t.Errorf("left %s of the legs %v", shown(got), list)
			}
		}
		if len(lists[2]) != 1 || lists[2][0] != leg("z", 1) {
			t.Errorf("left %v in the lists' spare room", lists[2])
		}
	}
}

// TestAnswersAreNew asks whether what is written into an argument or an answer, spare room included, is seen elsewhere.
func TestAnswersAreNew(t *testing.T) {
	spoil := func(list []api.Leg) {
		for i := range whole(list) {
			whole(list)[i] = leg("spoilt", -9)
		}
	}
	p := with(roomy(spread(1, 2, -3))...)
	reversed := with(spread(-1, -2, 3)...)
	r, again := posting.Reverse(p, "d1"), posting.Reverse(p, "d1")
	spoil(again.Legs)
	spoil(p.Legs)
	if !isSame(r, reversed) {
		t.Errorf("Reverse: %s", shown(r))
	}

	list := roomy(legs(leg("a", 1), leg("b", 2)))
	m, _ := posting.Merge(list)
	second, _ := posting.Merge(list)
	spoil(second)
	spoil(list)
	if !slices.Equal(m, legs(leg("a", 1), leg("b", 2))) {
		t.Errorf("Merge: %v", m)
	}

	d, _ := posting.Decode(depositBytes)
	e, _ := posting.Decode(depositBytes)
	spoil(e.Legs)
	if !isSame(d, deposit()) {
		t.Errorf("Decode: %s", shown(d))
	}
}
