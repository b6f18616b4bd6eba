package chart_test

import (
	"iter"
	"math"
	"remit/api"
	"remit/chart"
	"remit/disk"
	"remit/ident"
	"remit/keys"
	"remit/store"
	"remit/txn"
	"slices"
	"strings"
	"testing"
)

// size is a disk on which all accounts of these tests have room.
const size = 256

// noughts is a number of 0 in a row.
const noughts = "\x00\x00\x00\x00\x00\x00\x00\x00"

// fresh is a store without rows, over a new disk.
func fresh(t *testing.T) (*disk.Disk, *store.Store) {
	t.Helper()
	d, err := disk.New(size)
	if err != nil {
		t.Fatal(err)
	}
	if err := store.Format(d, nil); err != nil {
		t.Fatalf("Format: %v", err)
	}
	return d, opened(t, d)
}

func opened(t *testing.T, d *disk.Disk) *store.Store {
	t.Helper()
	s, err := store.Open(d)
	if err != nil {
		t.Fatalf("Open: %v", err)
	}
	return s
}

// begun is a transaction over a store without rows.
func begun(t *testing.T) *txn.Txn {
	t.Helper()
	_, s := fresh(t)
	return txn.Begin(s)
}

// made is the account number of a country and a body.
func made(t *testing.T, country, body string) string {
	t.Helper()
	id, err := ident.Make(country, body)
	if err != nil {
		t.Fatalf("Make(%q, %q): %v", country, body, err)
	}
	return id
}

// west is the account number of the chapter's examples.
func west(t *testing.T) string {
	t.Helper()
	return made(t, "GB", "WEST12345698765432")
}

// customerOf is a customer's account.
func customerOf(id, currency string, balance, held int64) api.Account {
	return api.Account{Id: id, Currency: currency, Kind: api.Customer, Balance: balance, Held: held}
}

// frozen is an account, frozen.
func frozen(a api.Account) api.Account {
	a.Frozen = true
	return a
}

// systemOf is a system's account.
func systemOf(id, currency string, kind int, balance int64) api.Account {
	return api.Account{Id: id, Currency: currency, Kind: kind, Balance: balance}
}

// founded are the system's accounts of a currency as they are founded, by rising id.
func founded(currency string) []api.Account {
	return []api.Account{
		systemOf("clearing."+currency, currency, api.Clearing, 0),
		systemOf("fees."+currency, currency, api.Income, 0),
		systemOf("outside."+currency, currency, api.Outside, 0),
		systemOf("suspense."+currency, currency, api.Suspense, 0),
	}
}

// put sets a row of a transaction, whatever it may be.
func put(t *testing.T, x *txn.Txn, key, value string) {
	t.Helper()
	if err := x.Put(key, value); err != nil {
		t.Fatalf("Put(%q): %v", key, err)
	}
}

// taken fails a test whose call was refused.
func taken(t *testing.T, err error) {
	t.Helper()
	if err != nil {
		t.Fatalf("refused: %v", err)
	}
}

func told(accounts iter.Seq[api.Account]) []api.Account {
	var out []api.Account
	for a := range accounts {
		out = append(out, a)
	}
	return out
}

// rowsOf are all rows that a transaction sees.
func rowsOf(x *txn.Txn) []api.Row {
	var out []api.Row
	for key, value := range x.Range("", "\xff") {
		out = append(out, api.Row{Key: key, Value: value})
	}
	return out
}

func checkError(t *testing.T, what string, got, want error) {
	t.Helper()
	if got != want {
		t.Errorf("%s: %v, want %v", what, got, want)
	}
}

func checkGet(t *testing.T, x *txn.Txn, id string, want api.Account, wantErr error) {
	t.Helper()
	if a, err := chart.Get(x, id); a != want || err != wantErr {
		t.Errorf("Get(%q) = %v, %v, want %v, %v", id, a, err, want, wantErr)
	}
}

func checkAll(t *testing.T, x *txn.Txn, want ...api.Account) {
	t.Helper()
	if got := told(chart.All(x)); !slices.Equal(got, want) {
		t.Errorf("All() = %v, want %v", got, want)
	}
}

// refuses asks for a refusal that leaves a transaction's rows and steps as they are.
func refuses(t *testing.T, what string, x *txn.Txn, call func() error, want error) {
	t.Helper()
	before, mark := rowsOf(x), x.Mark()
	checkError(t, what, call(), want)
	if !slices.Equal(rowsOf(x), before) || x.Mark() != mark {
		t.Errorf("%s: the rows are %q behind it, and were %q; %d steps, and were %d", what, rowsOf(x), before, x.Mark(), mark)
	}
}

func refusesOpen(t *testing.T, x *txn.Txn, id, currency string, want error) {
	t.Helper()
	refuses(t, "Open "+id+" "+currency, x, func() error { return chart.Open(x, id, currency) }, want)
}

func refusesFound(t *testing.T, x *txn.Txn, currency string, want error) {
	t.Helper()
	refuses(t, "Found "+currency, x, func() error { return chart.Found(x, currency) }, want)
}

func refusesSet(t *testing.T, x *txn.Txn, a api.Account, want error) {
	t.Helper()
	refuses(t, "Set "+a.Id, x, func() error { return chart.Set(x, a) }, want)
}

func refusesFreeze(t *testing.T, x *txn.Txn, id string, on bool, want error) {
	t.Helper()
	refuses(t, "Freeze "+id, x, func() error { return chart.Freeze(x, id, on) }, want)
}

func refusesClose(t *testing.T, x *txn.Txn, id string, want error) {
	t.Helper()
	refuses(t, "Close "+id, x, func() error { return chart.Close(x, id) }, want)
}

// TestChapterExamples goes through the examples of the chapter.
func TestChapterExamples(t *testing.T) {
	x, n := begun(t), west(t)
	taken(t, chart.Open(x, n, "EUR"))
	a := customerOf(n, "EUR", 0, 0)
	checkGet(t, x, n, a, nil)
	if row, found := x.Get(chart.Key(n)); !found || row != "\x01\x00\x03\x45\x55\x52"+noughts+noughts {
		t.Errorf("the row of %q is %q", n, row)
	}
	refusesOpen(t, x, n, "EUR", api.ErrExists)
	refusesOpen(t, x, n, "eur", api.ErrCurrency)
	refusesOpen(t, x, "", "eur", api.ErrAccount)
	taken(t, chart.Found(x, "EUR"))
	checkAll(t, x, append([]api.Account{a}, founded("EUR")...)...)
	refusesFreeze(t, x, "fees.EUR", true, api.ErrAccount)
	refusesSet(t, x, customerOf(n, "EUR", 5, -1), api.ErrForm)
	taken(t, chart.Set(x, customerOf(n, "EUR", 5, 0)))
	refusesClose(t, x, n, api.ErrUse)
}

// TestKey asks for the keys of ids, good ones and others.
func TestKey(t *testing.T) {
	const space = "\x02a\x00\x01\x02"
	for _, c := range []struct{ id, want string }{
		{"", space + "\x00\x01"},
		{"fees.EUR", space + "fees.EUR\x00\x01"},
		{"GB82WEST12345698765432", space + "GB82WEST12345698765432\x00\x01"},
		{"a\x00b", space + "a\x00\xffb\x00\x01"},
		{"\x00\x01\xff", space + "\x00\xff\x01\xff\x00\x01"},
		{strings.Repeat("x", 1000), space + strings.Repeat("x", 1000) + "\x00\x01"},
	} {
		if got := chart.Key(c.id); got != c.want || got != keys.Join(keys.Text("a"), keys.Text(c.id)) {
			t.Errorf("Key(%.40q) = %.60q, want %.60q", c.id, got, c.want)
		}
	}
}

// goodAccounts are accounts that are good, with their rows.
func goodAccounts(t *testing.T) map[api.Account]string {
	n := west(t)
	long, short := made(t, "ZZ", strings.Repeat("9", 30)), made(t, "AA", "0")
	return map[api.Account]string{
		customerOf(n, "EUR", 0, 0):                                    "\x01\x00\x03EUR" + noughts + noughts,
		frozen(customerOf(n, "EUR", 0, 0)):                            "\x01\x01\x03EUR" + noughts + noughts,
		customerOf(n, "USD", 258, 3):                                  "\x01\x00\x03USD\x02\x01\x00\x00\x00\x00\x00\x00\x03\x00\x00\x00\x00\x00\x00\x00",
		customerOf(long, "AAA", api.MaxBalance, 0):                    "\x01\x00\x03AAA\x00\x80\xc6\xa4\x7e\x8d\x03\x00" + noughts,
		customerOf(short, "ZZZ", 0, api.MaxBalance):                   "\x01\x00\x03ZZZ" + noughts + "\x00\x80\xc6\xa4\x7e\x8d\x03\x00",
		customerOf(n, "EUR", api.MaxBalance-1, 1):                     "\x01\x00\x03EUR\xff\x7f\xc6\xa4\x7e\x8d\x03\x00\x01\x00\x00\x00\x00\x00\x00\x00",
		systemOf("outside.EUR", "EUR", api.Outside, -1):               "\x02\x00\x03EUR\xff\xff\xff\xff\xff\xff\xff\xff" + noughts,
		systemOf("suspense.EUR", "EUR", api.Suspense, 1):              "\x03\x00\x03EUR\x01\x00\x00\x00\x00\x00\x00\x00" + noughts,
		systemOf("clearing.USD", "USD", api.Clearing, api.MaxTotal):   "\x04\x00\x03USD\x00\x00\x00\x00\x00\x00\x00\x40" + noughts,
		systemOf("fees.XXX", "XXX", api.Income, -api.MaxTotal):        "\x05\x00\x03XXX\x00\x00\x00\x00\x00\x00\x00\xc0" + noughts,
		systemOf("fees.XXX", "XXX", api.Income, api.MaxBalance+1):     "\x05\x00\x03XXX\x01\x80\xc6\xa4\x7e\x8d\x03\x00" + noughts,
		systemOf("suspense.XXX", "XXX", api.Suspense, -api.MaxAmount): "\x03\x00\x03XXX\x00\x1c\xf4\xab\xfd\xff\xff\xff" + noughts,
	}
}

// badAccounts are accounts that aren't good.
func badAccounts(t *testing.T) []api.Account {
	n := west(t)
	out := []api.Account{
		{},
		customerOf("", "EUR", 0, 0),
		customerOf(n, "", 0, 0),
		customerOf(n, "eur", 0, 0),
		customerOf(n, "EURO", 0, 0),
		customerOf(n, "EU", 0, 0),
		customerOf(n[:21], "EUR", 0, 0),
		customerOf(strings.ToLower(n), "EUR", 0, 0),
		customerOf("GB83WEST12345698765432", "EUR", 0, 0),
		customerOf("outside.EUR", "EUR", 0, 0),
		customerOf(n, "EUR", -1, 0),
		customerOf(n, "EUR", 0, -1),
		customerOf(n, "EUR", 5, -1),
		customerOf(n, "EUR", -1, 5),
		customerOf(n, "EUR", api.MaxBalance+1, 0),
		customerOf(n, "EUR", 0, api.MaxBalance+1),
		customerOf(n, "EUR", api.MaxBalance, 1),
		customerOf(n, "EUR", 1, api.MaxBalance),
		customerOf(n, "EUR", api.MaxBalance+1, -1),
		customerOf(n, "EUR", -1, api.MaxBalance+1),
		customerOf(n, "EUR", math.MaxInt64, math.MaxInt64),
		customerOf(n, "EUR", math.MaxInt64, 1),
		customerOf(n, "EUR", math.MinInt64, math.MinInt64),
		customerOf(n, "EUR", math.MinInt64, 0),
		systemOf(n, "EUR", api.Outside, 0),
		systemOf("outside.EUR", "EUR", api.Suspense, 0),
		systemOf("outside.EUR", "USD", api.Outside, 0),
		systemOf("outside.eur", "eur", api.Outside, 0),
		systemOf("outside.", "", api.Outside, 0),
		systemOf("", "eur", api.Outside, 0),
		systemOf("fees.EUR", "EUR", api.Income, api.MaxTotal+1),
		systemOf("fees.EUR", "EUR", api.Income, -api.MaxTotal-1),
		systemOf("fees.EUR", "EUR", api.Income, math.MaxInt64),
		systemOf("fees.EUR", "EUR", api.Income, math.MinInt64),
		frozen(systemOf("fees.EUR", "EUR", api.Income, 0)),
		{Id: "fees.EUR", Currency: "EUR", Kind: api.Income, Held: 1},
		{Id: "fees.EUR", Currency: "EUR", Kind: api.Income, Held: -1},
	}
	for _, kind := range []int{0, -1, 6, 7, 255, 256, 257, 258, 1<<32 + 1, math.MaxInt, math.MinInt, math.MinInt + 1} {
		// The empty id too: it is what layer 5's System tells of a kind that isn't the system's.
		for _, id := range []string{"", n, "outside.EUR"} {
			out = append(out, api.Account{Id: id, Currency: "EUR", Kind: kind})
		}
	}
	return out
}

// TestEncodeAndDecode asks for the rows of good accounts, and for the accounts of those rows.
func TestEncodeAndDecode(t *testing.T) {
	for a, want := range goodAccounts(t) {
		row, err := chart.Encode(a)
		if row != want || err != nil || len(row) != 22 {
			t.Errorf("Encode(%v) = %q, %v, want %q", a, row, err, want)
		}
		if got, err := chart.Decode(a.Id, want); got != a || err != nil {
			t.Errorf("Decode(%q, %q) = %v, %v, want %v", a.Id, want, got, err, a)
		}
	}
}

func TestEncodeRefuses(t *testing.T) {
	for _, a := range badAccounts(t) {
		if row, err := chart.Encode(a); row != "" || err != api.ErrForm {
			t.Errorf("Encode(%v) = %q, %v", a, row, err)
		}
	}
}

// rowOf is a row as the chapter lays it out, of whatever it may be made.
func rowOf(kind, flag byte, currency, balance, held string) string {
	return string([]byte{kind, flag}) + currency + balance + held
}

func TestDecodeRefuses(t *testing.T) {
	const one, minus, most = "\x01\x00\x00\x00\x00\x00\x00\x00", "\xff\xff\xff\xff\xff\xff\xff\xff", "\x00\x80\xc6\xa4\x7e\x8d\x03\x00"
	n := west(t)
	good := rowOf(1, 0, "\x03EUR", noughts, noughts)
	for _, c := range []struct{ id, row string }{
		{n, ""},
		{n, "nobody's"},
		{n, good + "\x00"},
		{n, good + good},
		{"", good},
		{"outside.EUR", good},
		{"fees.EUR", good},
		{strings.ToLower(n), good},
		{n + " ", good},
		{"GB83WEST12345698765432", good},
		{n, rowOf(0, 0, "\x03EUR", noughts, noughts)},
		{n, rowOf(2, 0, "\x03EUR", noughts, noughts)},
		{n, rowOf(6, 0, "\x03EUR", noughts, noughts)},
		{n, rowOf(1, 2, "\x03EUR", noughts, noughts)},
		{n, rowOf(1, 255, "\x03EUR", noughts, noughts)},
		{n, rowOf(1, 0, "\x03eur", noughts, noughts)},
		{n, rowOf(1, 0, "\x02EU", noughts, noughts)},
		{n, rowOf(1, 0, "\x04EURO", noughts, noughts)},
		{n, rowOf(1, 0, "\x83\x00EUR", noughts, noughts)},
		{n, rowOf(1, 0, "\x00", noughts, noughts)},
		{n, rowOf(1, 0, "\x03EUR", minus, noughts)},
		{n, rowOf(1, 0, "\x03EUR", noughts, minus)},
		{n, rowOf(1, 0, "\x03EUR", one, minus)},
		{n, rowOf(1, 0, "\x03EUR", most, one)},
		{n, rowOf(1, 0, "\x03EUR", one, most)},
		{"", rowOf(0, 0, "\x03EUR", noughts, noughts)},
		{"", rowOf(6, 0, "\x03EUR", noughts, noughts)},
		{"", rowOf(2, 0, "\x03eur", noughts, noughts)},
		{"outside.EUR", rowOf(3, 0, "\x03EUR", noughts, noughts)},
		{"outside.EUR", rowOf(2, 0, "\x03USD", noughts, noughts)},
		{"outside.EUR", rowOf(2, 1, "\x03EUR", noughts, noughts)},
		{"outside.EUR", rowOf(2, 0, "\x03EUR", noughts, one)},
		{"outside.EUR", rowOf(2, 0, "\x03EUR", noughts, minus)},
		{"outside.EUR", rowOf(2, 0, "\x03EUR", "\x01\x00\x00\x00\x00\x00\x00\x40", noughts)},
		{"outside.EUR", rowOf(2, 0, "\x03EUR", "\xff\xff\xff\xff\xff\xff\xff\xbf", noughts)},
	} {
		if a, err := chart.Decode(c.id, c.row); a != (api.Account{}) || err != api.ErrCorrupt {
			t.Errorf("Decode(%q, %q) = %v, %v", c.id, c.row, a, err)
		}
	}
	for a, row := range goodAccounts(t) {
		for size := range len(row) {
			if got, err := chart.Decode(a.Id, row[:size]); got != (api.Account{}) || err != api.ErrCorrupt {
				t.Errorf("Decode(%q, %q) = %v, %v", a.Id, row[:size], got, err)
			}
		}
	}
}

// TestFound asks for the four accounts of a currency, each currency on its own.
func TestFound(t *testing.T) {
	x := begun(t)
	for i, currency := range []string{"USD", "EUR", "AAA", "ZZZ"} {
		taken(t, chart.Found(x, currency))
		if x.Mark() != 4*(i+1) {
			t.Errorf("Found: %d steps", x.Mark())
		}
		for _, a := range founded(currency) {
			checkGet(t, x, a.Id, a, nil)
		}
		refusesFound(t, x, currency, api.ErrExists)
	}
	var want []api.Account
	for _, currency := range []string{"AAA", "EUR", "USD", "ZZZ"} {
		want = append(want, founded(currency)...)
	}
	slices.SortFunc(want, func(a, b api.Account) int { return strings.Compare(a.Id, b.Id) })
	checkAll(t, x, want...)
}

// TestFoundInOrder asks which of the four is written first: going back step by step takes the last ones out first.
func TestFoundInOrder(t *testing.T) {
	x := begun(t)
	taken(t, chart.Found(x, "EUR"))
	for i, id := range []string{"fees.EUR", "clearing.EUR", "suspense.EUR", "outside.EUR"} {
		taken(t, x.Back(3-i))
		checkGet(t, x, id, api.Account{}, api.ErrAccount)
		if got := len(told(chart.All(x))); got != 3-i {
			t.Errorf("%d accounts with %d steps", got, 3-i)
		}
	}
}

func TestFoundRefuses(t *testing.T) {
	x := begun(t)
	for _, currency := range []string{"", "eur", "EU", "EURO", "EU1", "E R", "EUR\x00", "ÄÖ", "\x00\x00\x00"} {
		refusesFound(t, x, currency, api.ErrCurrency)
	}
	for _, id := range []string{"outside.EUR", "suspense.EUR", "clearing.EUR", "fees.EUR"} {
		for _, value := range []string{"", "nobody's", "\x01\x00\x03EUR" + noughts + noughts} {
			x := begun(t)
			put(t, x, chart.Key(id), value)
			refusesFound(t, x, "EUR", api.ErrExists)
			taken(t, chart.Found(x, "USD"))
			checkGet(t, x, id, api.Account{}, api.ErrCorrupt)
		}
	}
}

// TestOpen asks for several customers' accounts beside one another; whether the currency was founded isn't asked.
func TestOpen(t *testing.T) {
	x, n := begun(t), west(t)
	long, short := made(t, "ZZ", strings.Repeat("Z", 30)), made(t, "AA", "0")
	for i, id := range []string{n, long, short} {
		taken(t, chart.Open(x, id, "EUR"))
		checkGet(t, x, id, customerOf(id, "EUR", 0, 0), nil)
		if x.Mark() != i+1 {
			t.Errorf("Open: %d steps", x.Mark())
		}
		for _, currency := range []string{"EUR", "USD"} {
			refusesOpen(t, x, id, currency, api.ErrExists)
		}
	}
	checkAll(t, x, customerOf(short, "EUR", 0, 0), customerOf(n, "EUR", 0, 0), customerOf(long, "EUR", 0, 0))
}

// TestOpenRefuses asks for the refusals in their order.
func TestOpenRefuses(t *testing.T) {
	x, n := begun(t), west(t)
	for _, id := range []string{"", "x", "GB83WEST12345698765432", strings.ToLower(n), "GB82 WEST 1234 5698 7654 32", n + "0", "outside.EUR", n + "\x00", made(t, "GB", strings.Repeat("9", 30)) + "9"} {
		for _, currency := range []string{"EUR", "eur"} {
			refusesOpen(t, x, id, currency, api.ErrAccount)
		}
		put(t, x, chart.Key(id), "anything")
		refusesOpen(t, x, id, "EUR", api.ErrAccount)
	}
	for _, there := range []bool{false, true} {
		if there {
			put(t, x, chart.Key(n), "")
		}
		for _, currency := range []string{"", "eur", "EURO", "E"} {
			refusesOpen(t, x, n, currency, api.ErrCurrency)
		}
	}
	for _, value := range []string{"", "nobody's", "\x01\x00\x03EUR" + noughts + noughts} {
		put(t, x, chart.Key(n), value)
		refusesOpen(t, x, n, "EUR", api.ErrExists)
	}
}

// TestGet asks for accounts that are there, for those that aren't, and for rows that are no account's.
func TestGet(t *testing.T) {
	x := begun(t)
	for a, row := range goodAccounts(t) {
		checkGet(t, x, a.Id, api.Account{}, api.ErrAccount)
		put(t, x, chart.Key(a.Id), row)
		checkGet(t, x, a.Id, a, nil)
		for _, value := range []string{"", "nobody's", row[:21], row + "\x00"} {
			put(t, x, chart.Key(a.Id), value)
			checkGet(t, x, a.Id, api.Account{}, api.ErrCorrupt)
		}
		taken(t, x.Delete(chart.Key(a.Id)))
	}
	for _, id := range []string{"", "x", "\x00", strings.Repeat("x", 5000)} {
		checkGet(t, x, id, api.Account{}, api.ErrAccount)
		put(t, x, chart.Key(id), "\x01\x00\x03EUR"+noughts+noughts)
		checkGet(t, x, id, api.Account{}, api.ErrCorrupt)
	}
}

// TestSet asks for every good account over a row of any value; a row that is as it would be written is written all the same.
func TestSet(t *testing.T) {
	for a := range goodAccounts(t) {
		x := begun(t)
		refusesSet(t, x, a, api.ErrAccount)
		for _, value := range []string{"", "nobody's", "\x01\x00\x03EUR" + noughts + noughts} {
			put(t, x, chart.Key(a.Id), value)
			for range 2 {
				mark := x.Mark()
				taken(t, chart.Set(x, a))
				checkGet(t, x, a.Id, a, nil)
				checkAll(t, x, a)
				if x.Mark() != mark+1 {
					t.Errorf("Set(%v): %d steps, and %d ahead of it", a, x.Mark(), mark)
				}
			}
		}
	}
}

// TestSetRefuses asks for what isn't good: whether there is a row isn't looked at then.
func TestSetRefuses(t *testing.T) {
	for _, a := range badAccounts(t) {
		x := begun(t)
		refusesSet(t, x, a, api.ErrForm)
		put(t, x, chart.Key(a.Id), "")
		refusesSet(t, x, a, api.ErrForm)
	}
	x, n := begun(t), west(t)
	taken(t, chart.Found(x, "EUR"))
	taken(t, chart.Open(x, n, "EUR"))
	refusesSet(t, x, customerOf(made(t, "GB", "WEST"), "EUR", 0, 0), api.ErrAccount)
	refusesSet(t, x, systemOf("fees.USD", "USD", api.Income, 0), api.ErrAccount)
}

// TestFreeze asks for an account that is frozen and thawed; all else of it stays.
func TestFreeze(t *testing.T) {
	x, n := begun(t), west(t)
	taken(t, chart.Open(x, n, "EUR"))
	a := customerOf(n, "EUR", 5, 3)
	taken(t, chart.Set(x, a))
	steps := x.Mark()
	for range 2 {
		taken(t, chart.Freeze(x, n, false))
		checkGet(t, x, n, a, nil)
	}
	if x.Mark() != steps {
		t.Errorf("Freeze of what is so already: %d steps, and %d ahead of it", x.Mark(), steps)
	}
	for range 2 {
		taken(t, chart.Freeze(x, n, true))
		checkGet(t, x, n, frozen(a), nil)
		if x.Mark() != steps+1 {
			t.Errorf("Freeze: %d steps, and %d ahead of it", x.Mark(), steps)
		}
	}
	taken(t, chart.Freeze(x, n, false))
	checkGet(t, x, n, a, nil)
	checkAll(t, x, a)
}

// TestFreezeAndCloseRefuse asks for the refusals that they share: of what isn't there, of what isn't a customer's, of what is no account's row.
func TestFreezeAndCloseRefuse(t *testing.T) {
	x, n := begun(t), west(t)
	refuse := func(id string, want error) {
		t.Helper()
		refusesFreeze(t, x, id, true, want)
		refusesFreeze(t, x, id, false, want)
		refusesClose(t, x, id, want)
	}
	refuse(n, api.ErrAccount)
	refuse("", api.ErrAccount)
	refuse("fees.EUR", api.ErrAccount)
	taken(t, chart.Found(x, "EUR"))
	for _, a := range founded("EUR") {
		refuse(a.Id, api.ErrAccount)
		a.Balance = 7
		taken(t, chart.Set(x, a))
		refuse(a.Id, api.ErrAccount)
		put(t, x, chart.Key(a.Id), "nobody's")
		refuse(a.Id, api.ErrCorrupt)
	}
	for _, id := range []string{n, "", "x"} {
		put(t, x, chart.Key(id), "")
		refuse(id, api.ErrCorrupt)
	}
}

// TestClose asks for accounts that are taken out, and for those that have money: whether they are frozen doesn't matter.
func TestClose(t *testing.T) {
	x, n := begun(t), west(t)
	other := made(t, "GB", "WEST")
	taken(t, chart.Open(x, other, "EUR"))
	for _, a := range []api.Account{customerOf(n, "EUR", 0, 0), frozen(customerOf(n, "USD", 0, 0))} {
		taken(t, chart.Open(x, n, "EUR"))
		for _, money := range []struct{ balance, held int64 }{{1, 0}, {0, 1}, {1, 1}, {api.MaxBalance, 0}, {0, api.MaxBalance}} {
			full := a
			full.Balance, full.Held = money.balance, money.held
			taken(t, chart.Set(x, full))
			refusesClose(t, x, n, api.ErrUse)
		}
		taken(t, chart.Set(x, a))
		mark := x.Mark()
		taken(t, chart.Close(x, n))
		checkGet(t, x, n, api.Account{}, api.ErrAccount)
		refusesClose(t, x, n, api.ErrAccount)
		checkAll(t, x, customerOf(other, "EUR", 0, 0))
		if _, found := x.Get(chart.Key(n)); found || x.Mark() != mark+1 {
			t.Errorf("Close: %v, %d steps, and %d ahead of it", found, x.Mark(), mark)
		}
	}
}

// strangers are keys that no good account has, among and beside those of accounts.
func strangers(n string) []string {
	a, id := keys.Text("a"), keys.Text(n)
	return []string{
		"", "a", n, "fees.EUR",
		keys.Join(), keys.Join(a), keys.Join(id), keys.Join(keys.Number(0)),
		keys.Join(a, keys.Number(0)), keys.Join(a, keys.Number(1<<62)), keys.Join(keys.Number(7), id),
		keys.Join(a, id, id), keys.Join(a, id, keys.Number(1)), keys.Join(a, keys.Number(1), id), keys.Join(a, keys.Text("")),
		keys.Join(keys.Text("b"), id), keys.Join(keys.Text("A"), id), keys.Join(keys.Text(""), id), keys.Join(keys.Text("a\x00"), id), keys.Join(keys.Text("aa"), id),
		keys.Join(a) + "\x00", keys.Join(a) + "\x02", keys.Join(a) + "\x02" + n, keys.Join(a) + "\x03", keys.Join(a) + "\xff", keys.Join(a, id) + "\x00", keys.Join(a, id)[:len(keys.Join(a))+3],
	}
}

// TestAllAmongOtherRows asks for the accounts alone, whatever other rows there are, and for those alone whose rows are theirs.
func TestAllAmongOtherRows(t *testing.T) {
	x, n := begun(t), west(t)
	row := "\x01\x00\x03EUR" + noughts + noughts
	for _, key := range strangers(n) {
		put(t, x, key, row)
	}
	checkAll(t, x)
	taken(t, chart.Found(x, "EUR"))
	taken(t, chart.Open(x, n, "EUR"))
	want := append([]api.Account{customerOf(n, "EUR", 0, 0)}, founded("EUR")...)
	checkAll(t, x, want...)
	for _, id := range []string{"x", "GB", "GB83WEST12345698765432", "zzz", "outside.USD", strings.ToLower(n), "\xff", "a\x00"} {
		put(t, x, chart.Key(id), row)
	}
	checkAll(t, x, want...)
	put(t, x, chart.Key("fees.EUR"), row)
	checkAll(t, x, want[0], want[1], want[3], want[4])
	put(t, x, chart.Key(n), row+row)
	checkAll(t, x, want[1], want[3], want[4])
}

// TestAllTellsItsMoment asks for the rows of the call, and for an iterator that is stopped and gone over again.
func TestAllTellsItsMoment(t *testing.T) {
	x, n := begun(t), west(t)
	none := chart.All(x)
	taken(t, chart.Open(x, n, "EUR"))
	one := chart.All(x)
	taken(t, chart.Found(x, "EUR"))
	taken(t, chart.Set(x, customerOf(n, "USD", 9, 9)))
	taken(t, chart.Freeze(x, n, true))
	five := chart.All(x)
	opening, changed := customerOf(n, "EUR", 0, 0), frozen(customerOf(n, "USD", 9, 9))
	all := append([]api.Account{changed}, founded("EUR")...)
	check := func() {
		t.Helper()
		for range 2 {
			if got := told(none); len(got) != 0 {
				t.Errorf("ahead of the first account: %v", got)
			}
			if got := told(one); !slices.Equal(got, []api.Account{opening}) {
				t.Errorf("behind the first account: %v", got)
			}
			if got := told(five); !slices.Equal(got, all) {
				t.Errorf("behind all: %v", got)
			}
			for most := 1; most <= 5; most++ {
				if got := first(five, most); !slices.Equal(got, all[:most]) {
					t.Errorf("the first %d: %v", most, got)
				}
			}
		}
	}
	check()
	taken(t, x.Back(1))
	check()
	taken(t, chart.Close(x, n))
	check()
	taken(t, x.Commit())
	check()
	checkAll(t, x)
}

// first are the first accounts that an iterator tells, which is stopped behind them.
func first(accounts iter.Seq[api.Account], most int) []api.Account {
	var out []api.Account
	for a := range accounts {
		out = append(out, a)
		if len(out) == most {
			break
		}
	}
	return out
}

// TestAllInTurns asks for iterators that are gone over within one another, and for calls that change rows meanwhile.
func TestAllInTurns(t *testing.T) {
	x := begun(t)
	taken(t, chart.Found(x, "EUR"))
	seq := chart.All(x)
	pairs := 0
	for a := range seq {
		for b := range seq {
			pairs++
			a.Balance, b.Balance = 0, 0
			if !slices.Contains(founded("EUR"), a) || !slices.Contains(founded("EUR"), b) {
				t.Errorf("told %v and %v", a, b)
			}
		}
		a.Balance = 3
		taken(t, chart.Set(x, a))
		taken(t, x.Delete(chart.Key(a.Id)))
	}
	if pairs != 16 {
		t.Errorf("%d pairs", pairs)
	}
	checkAll(t, x)
}

// TestEnded asks a transaction that has ended for everything.
func TestEnded(t *testing.T) {
	_, s := fresh(t)
	n := west(t)
	before := txn.Begin(s)
	taken(t, chart.Open(before, n, "EUR"))
	taken(t, chart.Found(before, "EUR"))
	taken(t, before.Commit())
	dropped := txn.Begin(s)
	checkAll(t, dropped, append([]api.Account{customerOf(n, "EUR", 0, 0)}, founded("EUR")...)...)
	dropped.Drop()
	for _, x := range []*txn.Txn{before, dropped} {
		checkError(t, "Found", chart.Found(x, "EUR"), api.ErrClosed)
		checkError(t, "Found", chart.Found(x, "USD"), api.ErrClosed)
		checkError(t, "Found", chart.Found(x, "eur"), api.ErrCurrency)
		checkError(t, "Open", chart.Open(x, n, "EUR"), api.ErrClosed)
		checkError(t, "Open", chart.Open(x, n, "eur"), api.ErrCurrency)
		checkError(t, "Open", chart.Open(x, "x", "EUR"), api.ErrAccount)
		checkError(t, "Set", chart.Set(x, customerOf(n, "EUR", 0, 0)), api.ErrAccount)
		checkError(t, "Set", chart.Set(x, customerOf(n, "EUR", 5, -1)), api.ErrForm)
		for _, id := range []string{n, "fees.EUR", "x", ""} {
			checkGet(t, x, id, api.Account{}, api.ErrAccount)
			checkError(t, "Freeze", chart.Freeze(x, id, true), api.ErrAccount)
			checkError(t, "Freeze", chart.Freeze(x, id, false), api.ErrAccount)
			checkError(t, "Close", chart.Close(x, id), api.ErrAccount)
		}
		checkAll(t, x)
	}
	checkAll(t, txn.Begin(s), append([]api.Account{customerOf(n, "EUR", 0, 0)}, founded("EUR")...)...)
}

// TestBehindTheDisk asks for accounts that were committed, behind another opening; what was dropped isn't there.
func TestBehindTheDisk(t *testing.T) {
	d, s := fresh(t)
	n, gone := west(t), made(t, "GB", "WEST")
	x := txn.Begin(s)
	taken(t, chart.Found(x, "EUR"))
	taken(t, chart.Open(x, n, "EUR"))
	taken(t, chart.Open(x, gone, "EUR"))
	taken(t, x.Commit())
	x = txn.Begin(s)
	want := append([]api.Account{frozen(customerOf(n, "USD", 4, 5))}, founded("EUR")...)
	want[1].Balance = -api.MaxTotal
	taken(t, chart.Set(x, want[0]))
	taken(t, chart.Set(x, want[1]))
	taken(t, chart.Close(x, gone))
	taken(t, x.Commit())
	x = txn.Begin(s)
	taken(t, chart.Found(x, "USD"))
	taken(t, chart.Freeze(x, n, false))
	x.Drop()
	checkAll(t, txn.Begin(s), want...)
	d.Crash(api.Fate{Torn: -1})
	x = txn.Begin(opened(t, d))
	checkAll(t, x, want...)
	checkGet(t, x, n, want[0], nil)
	checkGet(t, x, gone, api.Account{}, api.ErrAccount)
}
