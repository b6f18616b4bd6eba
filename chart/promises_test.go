package chart_test

import (
	"encoding/binary"
	"fmt"
	"maps"
	"math"
	"math/big"
	"math/rand/v2"
	"regexp"
	"remit/api"
	"remit/chart"
	"remit/store"
	"remit/txn"
	"slices"
	"strings"
	"testing"
)

// The model says the chapter's words in another way: over rows in a map, keys and values written by the library, numbers without bounds.

var (
	accountNumber = regexp.MustCompile(`\A[A-Z]{2}[0-9]{2}[0-9A-Z]{1,30}\z`)
	code          = regexp.MustCompile(`\A[A-Z]{3}\z`)
	starts        = map[int]string{api.Outside: "outside.", api.Suspense: "suspense.", api.Clearing: "clearing.", api.Income: "fees."}
)

// modelFits tells whether an account number's check digits are those of its body and country.
func modelFits(id string) bool {
	digits := ""
	for _, c := range id[4:] + id[:2] + "00" {
		if c >= 'A' {
			digits += fmt.Sprint(c - 'A' + 10)
		} else {
			digits += string(c)
		}
	}
	n, _ := new(big.Int).SetString(digits, 10)
	rest := new(big.Int).Mod(n, big.NewInt(97)).Int64()
	return id[2:4] == fmt.Sprintf("%02d", 98-rest)
}

func modelIsNumber(id string) bool { return accountNumber.MatchString(id) && modelFits(id) }

// within tells whether a sum is from the one bound to the other.
func within(least, most int64, parts ...int64) bool {
	sum := new(big.Int)
	for _, part := range parts {
		sum.Add(sum, big.NewInt(part))
	}
	return sum.Cmp(big.NewInt(least)) >= 0 && sum.Cmp(big.NewInt(most)) <= 0
}

func modelGood(a api.Account) bool {
	if !code.MatchString(a.Currency) {
		return false
	}
	if a.Kind == api.Customer {
		return modelIsNumber(a.Id) && a.Balance >= 0 && a.Held >= 0 && within(0, 1e15, a.Balance, a.Held)
	}
	start, system := starts[a.Kind]
	return system && a.Id == start+a.Currency && !a.Frozen && a.Held == 0 && within(-1<<62, 1<<62, a.Balance)
}

func modelKey(id string) string {
	return "\x02a\x00\x01\x02" + strings.ReplaceAll(id, "\x00", "\x00\xff") + "\x00\x01"
}

func modelRow(a api.Account) string {
	out := []byte{byte(a.Kind), 0, 3}
	if a.Frozen {
		out[1] = 1
	}
	out = append(out, a.Currency...)
	out = binary.LittleEndian.AppendUint64(out, uint64(a.Balance))
	return string(binary.LittleEndian.AppendUint64(out, uint64(a.Held)))
}

func modelDecode(id, row string) (api.Account, error) {
	if len(row) != 22 || row[1] > 1 || row[2] != 3 {
		return api.Account{}, api.ErrCorrupt
	}
	number := func(at int) int64 { return int64(binary.LittleEndian.Uint64([]byte(row[at:]))) }
	a := api.Account{Id: id, Currency: row[3:6], Kind: int(row[0]), Frozen: row[1] == 1, Balance: number(6), Held: number(14)}
	if !modelGood(a) {
		return api.Account{}, api.ErrCorrupt
	}
	return a, nil
}

// model is what a transaction sees.
type model struct {
	rows  map[string]string
	ended bool
	// past are the rows ahead of each step.
	past []map[string]string
}

func (m *model) write(key, value string) error {
	if m.ended {
		return api.ErrClosed
	}
	m.past = append(m.past, maps.Clone(m.rows))
	m.rows[key] = value
	return nil
}

func (m *model) remove(key string) error {
	if m.ended {
		return api.ErrClosed
	}
	m.past = append(m.past, maps.Clone(m.rows))
	delete(m.rows, key)
	return nil
}

func (m *model) back(mark int) {
	if mark < len(m.past) {
		m.rows, m.past = m.past[mark], m.past[:mark]
	}
}

func (m *model) end() { m.rows, m.past, m.ended = map[string]string{}, nil, true }

func (m *model) has(id string) bool {
	_, found := m.rows[modelKey(id)]
	return found
}

func (m *model) found(currency string) error {
	if !code.MatchString(currency) {
		return api.ErrCurrency
	}
	for _, start := range starts {
		if m.has(start + currency) {
			return api.ErrExists
		}
	}
	for _, kind := range []int{api.Outside, api.Suspense, api.Clearing, api.Income} {
		a := systemOf(starts[kind]+currency, currency, kind, 0)
		if err := m.write(modelKey(a.Id), modelRow(a)); err != nil {
			return err
		}
	}
	return nil
}

func (m *model) open(id, currency string) error {
	switch {
	case !modelIsNumber(id):
		return api.ErrAccount
	case !code.MatchString(currency):
		return api.ErrCurrency
	case m.has(id):
		return api.ErrExists
	}
	return m.write(modelKey(id), modelRow(customerOf(id, currency, 0, 0)))
}

func (m *model) get(id string) (api.Account, error) {
	if !m.has(id) {
		return api.Account{}, api.ErrAccount
	}
	return modelDecode(id, m.rows[modelKey(id)])
}

func (m *model) set(a api.Account) error {
	switch {
	case !modelGood(a):
		return api.ErrForm
	case !m.has(a.Id):
		return api.ErrAccount
	}
	return m.write(modelKey(a.Id), modelRow(a))
}

func (m *model) customer(id string) (api.Account, error) {
	a, err := m.get(id)
	if err == nil && a.Kind != api.Customer {
		return api.Account{}, api.ErrAccount
	}
	return a, err
}

func (m *model) freeze(id string, on bool) error {
	a, err := m.customer(id)
	if err != nil || a.Frozen == on {
		return err
	}
	a.Frozen = on
	return m.write(modelKey(id), modelRow(a))
}

func (m *model) close(id string) error {
	a, err := m.customer(id)
	switch {
	case err != nil:
		return err
	case a.Balance != 0 || a.Held != 0:
		return api.ErrUse
	}
	return m.remove(modelKey(id))
}

// all goes through some ids instead of the rows: an account of another id has no good row here.
func (m *model) all(ids []string) []api.Account {
	var out []api.Account
	for _, id := range slices.Compact(slices.Sorted(slices.Values(ids))) {
		if a, err := m.get(id); err == nil {
			out = append(out, a)
		}
	}
	return out
}

// pair is a transaction and the model of it.
type pair struct {
	x *txn.Txn
	m *model
	// answers counts what was answered.
	answers map[string]int
}

func (p *pair) same(t *testing.T, what string, got, want error) {
	t.Helper()
	if got != want {
		t.Fatalf("%s: %v, want %v", what, got, want)
	}
	p.answers[fmt.Sprint(strings.Fields(what)[0], " ", want)]++
}

func (p *pair) found(t *testing.T, currency string) {
	t.Helper()
	p.same(t, "Found "+currency, chart.Found(p.x, currency), p.m.found(currency))
}

func (p *pair) open(t *testing.T, id, currency string) {
	t.Helper()
	p.same(t, "Open "+id+" "+currency, chart.Open(p.x, id, currency), p.m.open(id, currency))
}

func (p *pair) set(t *testing.T, a api.Account) {
	t.Helper()
	p.same(t, fmt.Sprintf("Set %v", a), chart.Set(p.x, a), p.m.set(a))
}

func (p *pair) freeze(t *testing.T, id string, on bool) {
	t.Helper()
	p.same(t, fmt.Sprint("Freeze ", id, on), chart.Freeze(p.x, id, on), p.m.freeze(id, on))
}

func (p *pair) close(t *testing.T, id string) {
	t.Helper()
	p.same(t, "Close "+id, chart.Close(p.x, id), p.m.close(id))
}

func (p *pair) put(t *testing.T, key, value string) {
	t.Helper()
	p.same(t, "Put "+key, p.x.Put(key, value), p.m.write(key, value))
}

func (p *pair) remove(t *testing.T, key string) {
	t.Helper()
	p.same(t, "Delete "+key, p.x.Delete(key), p.m.remove(key))
}

// check asks for all rows and steps, and for the accounts of these ids one by one and together.
func (p *pair) check(t *testing.T, ids []string) {
	t.Helper()
	var rows []api.Row
	for _, key := range slices.Sorted(maps.Keys(p.m.rows)) {
		rows = append(rows, api.Row{Key: key, Value: p.m.rows[key]})
	}
	if got := rowsOf(p.x); !slices.Equal(got, rows) {
		t.Fatalf("the rows are %q, want %q", got, rows)
	}
	if p.x.Mark() != len(p.m.past) {
		t.Fatalf("%d steps, want %d", p.x.Mark(), len(p.m.past))
	}
	for _, id := range ids {
		want, wantErr := p.m.get(id)
		if a, err := chart.Get(p.x, id); a != want || err != wantErr {
			t.Fatalf("Get(%q) = %v, %v, want %v, %v", id, a, err, want, wantErr)
		}
		p.answers[fmt.Sprint("Get ", wantErr)]++
	}
	if got, want := told(chart.All(p.x)), p.m.all(ids); !slices.Equal(got, want) {
		t.Fatalf("All() = %v, want %v", got, want)
	}
}

// TestAllOrdersOfCalls asks for P15.1, P15.3 and P15.4: each list of four calls over one customer's account and one currency's.
func TestAllOrdersOfCalls(t *testing.T) {
	const length = 4
	n := west(t)
	ids := []string{n, "clearing.EUR", "fees.EUR", "outside.EUR", "suspense.EUR", ""}
	calls := []func(*pair){
		func(p *pair) { p.found(t, "EUR") },
		func(p *pair) { p.open(t, n, "EUR") },
		func(p *pair) { p.open(t, n, "USD") },
		func(p *pair) { p.set(t, customerOf(n, "EUR", 5, 0)) },
		func(p *pair) { p.set(t, frozen(customerOf(n, "USD", 0, 0))) },
		func(p *pair) { p.set(t, systemOf("fees.EUR", "EUR", api.Income, -5)) },
		func(p *pair) { p.freeze(t, n, true) },
		func(p *pair) { p.freeze(t, n, false) },
		func(p *pair) { p.freeze(t, "fees.EUR", true) },
		func(p *pair) { p.close(t, n) },
		func(p *pair) { p.put(t, modelKey(n), "nobody's") },
		func(p *pair) { p.put(t, modelKey("fees.EUR"), "nobody's") },
		func(p *pair) { p.remove(t, modelKey("fees.EUR")) },
		func(p *pair) { p.x.Drop(); p.m.end() },
	}
	_, s := fresh(t)
	answers := map[string]int{}
	for order := range pow(len(calls), length) {
		p := &pair{txn.Begin(s), &model{rows: map[string]string{}}, answers}
		for range length {
			calls[order%len(calls)](p)
			order /= len(calls)
		}
		p.check(t, ids)
	}
	checkOften(t, answers, 50, append(answersOfCalls(), "Found remit: closed", "Open remit: closed"), "Found remit: currency", "Open remit: account", "Open remit: currency", "Set remit: form")
}

func pow(base, times int) int {
	out := 1
	for range times {
		out *= base
	}
	return out
}

// answersOfCalls are all answers of calls over a transaction that hasn't ended.
func answersOfCalls() []string {
	return []string{
		"Found <nil>", "Found remit: currency", "Found remit: exists",
		"Open <nil>", "Open remit: account", "Open remit: currency", "Open remit: exists",
		"Set <nil>", "Set remit: form", "Set remit: account",
		"Freeze <nil>", "Freeze remit: account", "Freeze remit: corrupt",
		"Close <nil>", "Close remit: account", "Close remit: corrupt", "Close remit: in use",
		"Get <nil>", "Get remit: account", "Get remit: corrupt",
	}
}

// checkOften asks whether each of these answers, but for those that can't come, came so often: else a test has shown less than it says.
func checkOften(t *testing.T, answers map[string]int, least int, wanted []string, never ...string) {
	t.Helper()
	for _, answer := range wanted {
		if answers[answer] < least && !slices.Contains(never, answer) {
			t.Errorf("%s was answered %d times alone", answer, answers[answer])
		}
	}
}

// anyAmount is near a bound or near 0.
func anyAmount(rnd *rand.Rand) int64 {
	near := []int64{api.MaxBalance, api.MaxTotal, -api.MaxTotal, math.MaxInt64, math.MinInt64}
	if rnd.IntN(3) > 0 {
		near = []int64{0}
	}
	return near[rnd.IntN(len(near))] + []int64{0, 1, -1, 5, 700}[rnd.IntN(5)]
}

// anyAccount is one that is good, or nearly.
func anyAccount(rnd *rand.Rand, ids []string) api.Account {
	id := ids[rnd.IntN(len(ids))]
	a := customerOf(id, []string{"EUR", "USD", "eur"}[rnd.IntN(40)%3], 0, 0)
	if _, currency, system := strings.Cut(id, "."); system {
		start, _, _ := strings.Cut(id, ".")
		a.Currency, a.Kind = currency, map[string]int{"outside": 2, "suspense": 3, "clearing": 4, "fees": 5}[start]
	}
	if rnd.IntN(2) == 0 {
		a.Balance = anyAmount(rnd)
	}
	if rnd.IntN(4) == 0 {
		a.Held = anyAmount(rnd)
	}
	if rnd.IntN(8) == 0 {
		a.Kind = rnd.IntN(8) - 1
	}
	a.Frozen = rnd.IntN(6) == 0
	return a
}

// anyIds are ids of customers, of the system, and others.
func anyIds(t *testing.T) []string {
	out := []string{"", "x", "GB83WEST12345698765432", "\x00", "\xff"}
	for _, body := range []string{"0", "WEST", "WEST12345698765432", strings.Repeat("Z", 30)} {
		out = append(out, made(t, "GB", body), made(t, "AA", body))
	}
	for _, currency := range []string{"EUR", "USD"} {
		for kind := api.Outside; kind <= api.Income; kind++ {
			out = append(out, starts[kind]+currency)
		}
	}
	return out
}

// anyKey is the key of an id, or of nobody's.
func anyKey(rnd *rand.Rand, ids []string) string {
	id := ids[rnd.IntN(len(ids))]
	if rnd.IntN(5) > 0 {
		return modelKey(id)
	}
	others := strangers(id)
	return others[rnd.IntN(len(others))]
}

// anyValue is the row of an account, or that with a byte of it changed, or shorter, or longer.
func anyValue(rnd *rand.Rand, ids []string) string {
	row := []byte(modelRow(anyAccount(rnd, ids)))
	switch rnd.IntN(8) {
	case 0:
		row[rnd.IntN(len(row))] ^= byte(1 << rnd.IntN(8))
	case 1:
		row = row[:rnd.IntN(len(row))]
	case 2:
		row = append(row, byte(rnd.IntN(3)))
	}
	return string(row)
}

// step does any one call.
func (p *pair) step(t *testing.T, rnd *rand.Rand, ids []string) {
	t.Helper()
	currency := []string{"EUR", "USD", "eur", ""}[rnd.IntN(12)%4]
	id := ids[rnd.IntN(len(ids))]
	if there := p.m.all(ids); len(there) > 0 && rnd.IntN(2) == 0 {
		id = there[rnd.IntN(len(there))].Id
	}
	switch rnd.IntN(20) {
	case 0, 1:
		p.found(t, currency)
	case 2, 3, 4, 5:
		p.open(t, id, currency)
	case 6, 7, 8, 9:
		p.set(t, anyAccount(rnd, []string{id}))
	case 10, 11, 12:
		p.freeze(t, id, rnd.IntN(2) == 0)
	case 13, 14, 15:
		p.close(t, id)
	case 16:
		p.put(t, anyKey(rnd, ids), anyValue(rnd, ids))
	case 17, 18:
		p.remove(t, anyKey(rnd, ids))
	case 19:
		if !p.m.ended {
			mark := rnd.IntN(len(p.m.past) + 1)
			taken(t, p.x.Back(mark))
			p.m.back(mark)
		}
	}
}

// lives goes through transactions over one store, one behind the other; what is committed is there for the next one.
func lives(t *testing.T, rnd *rand.Rand, s *store.Store, answers map[string]int) {
	ids := anyIds(t)
	stored := map[string]string{}
	for range 12 {
		p := &pair{txn.Begin(s), &model{rows: maps.Clone(stored)}, answers}
		p.check(t, ids)
		for range rnd.IntN(30) {
			p.step(t, rnd, ids)
			p.check(t, ids)
		}
		accounts, want := chart.All(p.x), p.m.all(ids)
		if rnd.IntN(3) == 0 {
			p.x.Drop()
		} else {
			taken(t, p.x.Commit())
			stored = p.m.rows
		}
		p.m.end()
		p.check(t, ids)
		p.step(t, rnd, ids)
		p.check(t, ids)
		if got := told(accounts); !slices.Equal(got, want) {
			t.Fatalf("behind the end of its transaction All tells %v, want %v", got, want)
		}
	}
}

// TestAnyCalls asks for P15.1, P15.3 and P15.4 over any rows, behind commits too.
func TestAnyCalls(t *testing.T) {
	answers := map[string]int{}
	for seed := range uint64(150) {
		_, s := fresh(t)
		lives(t, rand.New(rand.NewPCG(15, seed)), s, answers)
	}
	checkOften(t, answers, 50, answersOfCalls())
	checkOften(t, answers, 5, []string{"Found remit: closed", "Open remit: closed"})
}

// checkThereAndBack holds an account against the model, and what is made of it against what it is made again of.
func checkThereAndBack(t *testing.T, a api.Account) bool {
	t.Helper()
	row, err := chart.Encode(a)
	if !modelGood(a) {
		if row != "" || err != api.ErrForm {
			t.Fatalf("Encode(%v) = %q, %v", a, row, err)
		}
		return false
	}
	if row != modelRow(a) || err != nil {
		t.Fatalf("Encode(%v) = %q, %v", a, row, err)
	}
	if back, err := chart.Decode(a.Id, row); back != a || err != nil {
		t.Fatalf("Decode(%q, %q) = %v, %v, want %v", a.Id, row, back, err, a)
	}
	return true
}

// checkRow holds a row of an id against the model, and what it tells against what made it.
func checkRow(t *testing.T, id, row string) bool {
	t.Helper()
	want, wantErr := modelDecode(id, row)
	a, err := chart.Decode(id, row)
	if a != want || err != wantErr {
		t.Fatalf("Decode(%q, %q) = %v, %v, want %v, %v", id, row, a, err, want, wantErr)
	}
	if err != nil {
		return false
	}
	if again, err := chart.Encode(a); again != row || err != nil {
		t.Fatalf("Encode(%v) = %q, %v, want %q", a, again, err, row)
	}
	return true
}

// TestThereAndBack asks for P15.2: of any accounts, and of any rows.
func TestThereAndBack(t *testing.T) {
	rnd := rand.New(rand.NewPCG(15, 2))
	ids := anyIds(t)
	var good, bad, rows, broken int
	for range 40000 {
		a := anyAccount(rnd, ids)
		if checkThereAndBack(t, a) {
			good++
		} else {
			bad++
		}
		id := a.Id
		if rnd.IntN(4) == 0 {
			id = ids[rnd.IntN(len(ids))]
		}
		if checkRow(t, id, modelRow(a)) {
			rows++
		}
		if !checkRow(t, a.Id, anyValue(rnd, []string{a.Id})) {
			broken++
		}
	}
	if good < 5000 || bad < 5000 || rows < 5000 || broken < 5000 {
		t.Errorf("%d good accounts, %d bad ones, %d good rows, %d broken ones", good, bad, rows, broken)
	}
}

// TestEveryByteOfARow asks for P15.2 of all rows that differ from a good one in a byte.
func TestEveryByteOfARow(t *testing.T) {
	for a, row := range goodAccounts(t) {
		for at := range len(row) {
			for b := range 256 {
				other := []byte(row)
				other[at] = byte(b)
				checkRow(t, a.Id, string(other))
			}
		}
	}
}

// TestNoRowIsOfTwo asks for the last part of P15.2: two accounts of one id have unlike rows.
func TestNoRowIsOfTwo(t *testing.T) {
	n := west(t)
	var accounts []api.Account
	for _, currency := range []string{"EUR", "USD", "EUS"} {
		for _, balance := range []int64{0, 1, 256, 1 << 40} {
			for _, held := range []int64{0, 1, 256, 1 << 40} {
				a := customerOf(n, currency, balance, held)
				accounts = append(accounts, a, frozen(a))
			}
		}
	}
	made := map[string]api.Account{}
	for _, a := range accounts {
		row, err := chart.Encode(a)
		if before, twice := made[row]; err != nil || twice {
			t.Errorf("Encode of %v and of %v: %q, %v", before, a, row, err)
		}
		made[row] = a
	}
}

// TestManyAccounts asks for All by rising id of as many accounts as have room, and for Get of each.
func TestManyAccounts(t *testing.T) {
	x := begun(t)
	rnd := rand.New(rand.NewPCG(15, 3))
	var want []api.Account
	for i := range 2000 {
		body := fmt.Sprintf("%X", rnd.Uint64N(1<<uint(1+i%60)))
		id := made(t, string([]byte{byte('A' + rnd.IntN(26)), byte('A' + rnd.IntN(26))}), body)
		a := customerOf(id, "EUR", int64(i), 0)
		if chart.Open(x, id, "EUR") == nil {
			taken(t, chart.Set(x, a))
			want = append(want, a)
		}
	}
	slices.SortFunc(want, func(a, b api.Account) int { return strings.Compare(a.Id, b.Id) })
	checkAll(t, x, want...)
	for _, a := range want {
		checkGet(t, x, a.Id, a, nil)
	}
	if len(want) < 1900 {
		t.Errorf("%d accounts alone", len(want))
	}
}
