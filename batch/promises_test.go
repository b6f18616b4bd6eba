package batch_test

import (
	"encoding/binary"
	"maps"
	"math/rand/v2"
	"remit/api"
	"remit/batch"
	"remit/table"
	"slices"
	"strings"
	"testing"
)

// The chapter's words, said in another way: batches are sorted as they come and cut down, bytes are looked through as what is left of them, rows lie in Go's own map.

// normal sorts the ops so that those of a key stay in their order, and takes the last one of each.
func normal(ops []api.Op) []api.Op {
	all := slices.Clone(ops)
	slices.SortStableFunc(all, func(a, b api.Op) int { return strings.Compare(a.Key, b.Key) })
	var out []api.Op
	for i, op := range all {
		switch {
		case i+1 < len(all) && all[i+1].Key == op.Key:
		case op.Delete:
			out = append(out, del(op.Key))
		default:
			out = append(out, op)
		}
	}
	return out
}

func encoded(ops []api.Op) (string, error) {
	keys := []string{}
	form := false
	out := varint(uint64(len(ops)))
	for _, op := range ops {
		keys = append(keys, op.Key)
		form = form || op.Delete && op.Value != ""
		if op.Delete {
			out += "\x01" + varint(uint64(len(op.Key))) + op.Key
		} else {
			out += "\x00" + varint(uint64(len(op.Key))) + op.Key + varint(uint64(len(op.Value))) + op.Value
		}
	}
	if !slices.IsSorted(keys) || len(slices.Compact(keys)) != len(ops) {
		return "", api.ErrOrder
	}
	if form {
		return "", api.ErrForm
	}
	return out, nil
}

// reading is what is left of some bytes, and the first refusal, behind which nothing is read any more.
type reading struct {
	left string
	err  error
}

func (r *reading) refuse(when bool, err error) {
	if when && r.err == nil {
		r.err = err
	}
}

// take is the next bytes, or none where they aren't all there.
func (r *reading) take(size uint64) string {
	r.refuse(size > uint64(len(r.left)), api.ErrShort)
	if r.err != nil {
		return ""
	}
	s := r.left[:size]
	r.left = r.left[size:]
	return s
}

func (r *reading) number() uint64 {
	var raw []byte
	for r.err == nil {
		b := r.take(1)
		if r.err != nil {
			return 0
		}
		raw = append(raw, b[0])
		if b[0] < 128 || len(raw) == 10 {
			break
		}
	}
	x, n := binary.Uvarint(raw)
	r.refuse(n <= 0 || varint(x) != string(raw), api.ErrVarint)
	return x
}

func (r *reading) text() string {
	size := r.number()
	r.refuse(size > 2147483647, api.ErrLimit)
	return r.take(size)
}

func decodedBy(s string) ([]api.Op, error) {
	r := &reading{left: s}
	var ops []api.Op
	for i, count := uint64(0), r.number(); i < count && r.err == nil; i++ {
		kind := r.take(1)
		r.refuse(kind > "\x01", api.ErrForm)
		op := api.Op{Delete: kind == "\x01", Key: r.text()}
		r.refuse(i > 0 && op.Key <= ops[len(ops)-1].Key, api.ErrOrder)
		if !op.Delete {
			op.Value = r.text()
		}
		ops = append(ops, op)
	}
	r.refuse(r.left != "", api.ErrTail)
	if r.err != nil {
		return nil, r.err
	}
	return ops, nil
}

func applied(rows map[string]string, ops []api.Op) map[string]string {
	out := maps.Clone(rows)
	for _, op := range ops {
		delete(out, op.Key)
		if !op.Delete {
			out[op.Key] = op.Value
		}
	}
	return out
}

// between asks of each key that stands in a or b, by rising key, whether its row is another one.
func between(a, b map[string]string) []api.Op {
	both := maps.Clone(a)
	maps.Copy(both, b)
	var out []api.Op
	for _, key := range slices.Sorted(maps.Keys(both)) {
		old, was := a[key]
		value, is := b[key]
		if !is {
			out = append(out, del(key))
		} else if !was || old != value {
			out = append(out, put(key, value))
		}
	}
	return out
}

func tableOf(rows map[string]string) *table.Table {
	x := table.New()
	for key, value := range rows {
		x.Put(key, value)
	}
	return x
}

// form is a table's rows as one text, so that tables can be told from each other.
func form(x *table.Table) string {
	var out strings.Builder
	for _, row := range x.Rows() {
		out.WriteString(varint(uint64(len(row.Key))) + row.Key + varint(uint64(len(row.Value))) + row.Value)
	}
	return out.String()
}

// lists calls look for each list of at most this many of these ops.
func lists(ops []api.Op, most int, look func(list []api.Op)) {
	var grow func(list []api.Op)
	grow = func(list []api.Op) {
		look(list)
		for i := 0; len(list) < most && i < len(ops); i++ {
			grow(append(slices.Clip(list), ops[i]))
		}
	}
	grow(nil)
}

// someTables are all tables of three keys with these values.
func someTables(values ...string) []map[string]string {
	out := []map[string]string{{}}
	for _, key := range []string{"", "a", "b"} {
		for _, rows := range slices.Clone(out) {
			for _, value := range values {
				more := maps.Clone(rows)
				more[key] = value
				out = append(out, more)
			}
		}
	}
	return out
}

func someOps(values ...string) []api.Op {
	var out []api.Op
	for _, key := range []string{"", "a", "b"} {
		out = append(out, del(key))
		for _, value := range values {
			out = append(out, put(key, value))
		}
	}
	return out
}

// checkBatch asks for what is promised of any list of ops: its normal form, its bytes, and the way back.
func checkBatch(t *testing.T, ops []api.Op) {
	t.Helper()
	checkNormal(t, ops, normal(ops))
	checkNormal(t, batch.Normal(ops), normal(ops))
	want, wantErr := encoded(ops)
	checkEncode(t, ops, want, wantErr)
	if wantErr == nil {
		checkNormal(t, ops, ops)
	}
	bytes, err := batch.Encode(batch.Normal(ops))
	if err != nil {
		t.Errorf("Encode of Normal(%s): %v", shown(ops), err)
	}
	checkDecode(t, bytes, normal(ops), nil)
}

// checkBytes asks Decode for what is promised of any bytes.
func checkBytes(t *testing.T, s string) {
	t.Helper()
	want, wantErr := decodedBy(s)
	got, err := batch.Decode(s)
	if !slices.Equal(got, want) || err != wantErr {
		t.Fatalf("Decode(% x): %s, %v, want %s, %v", s, shown(got), err, shown(want), wantErr)
	}
	if err != nil {
		return
	}
	if again, err := batch.Encode(got); again != s || err != nil {
		t.Fatalf("Encode of Decode(% x): % x, %v", s, again, err)
	}
}

// checkCuts asks whether each beginning of a batch's bytes ends too early, and each longer text has a tail (P12.2).
func checkCuts(t *testing.T, s string) {
	t.Helper()
	for cut := range len(s) {
		checkDecode(t, s[:cut], nil, api.ErrShort)
	}
	for _, tail := range []string{"\x00", "\x01", "\x80", "\xff", "\x00\x01z\x00", "\x01\x01z", s} {
		checkDecode(t, s+tail, nil, api.ErrTail)
	}
}

// TestAllShortBatches asks for P12.1 to P12.3: each list of at most four ops, done to each table of three keys.
func TestAllShortBatches(t *testing.T) {
	ops := append(someOps("", "x"), delWith("", "x"), delWith("a", "x"), delWith("b", "x"))
	tables := someTables("", "x")
	var made []*table.Table
	for _, rows := range tables {
		made = append(made, tableOf(rows))
	}
	lists(ops, 4, func(list []api.Op) {
		checkBatch(t, list)
		short := batch.Normal(list)
		for i := range tables {
			want := form(tableOf(applied(tables[i], list)))
			x, y := made[i].Clone(), made[i].Clone()
			batch.Apply(x, list)
			batch.Apply(y, short)
			if form(x) != want || form(y) != want {
				t.Fatalf("to %q %s made %q, its normal form %q, want %q", tables[i], shown(list), form(x), form(y), want)
			}
		}
		if t.Failed() {
			t.FailNow()
		}
	})
}

// TestAllShortBytes asks for P12.1 and P12.2: Decode over each text of at most seven of these bytes.
func TestAllShortBytes(t *testing.T) {
	const letters = "\x00\x01\x02\x03a\x80\xff"
	var grow func(s string)
	grow = func(s string) {
		checkBytes(t, s)
		for i := 0; len(s) < 7 && i < len(letters); i++ {
			grow(s + letters[i:i+1])
		}
	}
	grow("")
}

// TestNoBatchBeginsAnother asks for the rest of P12.2, over all batches in normal form of three keys.
func TestNoBatchBeginsAnother(t *testing.T) {
	of := map[string]string{}
	lists(someOps("", "x", "\x00\x00"), 3, func(list []api.Op) {
		bytes, err := batch.Encode(list)
		if err != nil {
			return
		}
		checkCuts(t, bytes)
		if other, found := of[bytes]; found {
			t.Fatalf("%s and %s have the same bytes", shown(list), other)
		}
		of[bytes] = shown(list)
	})
	for a := range of {
		for b := range of {
			if a != b && strings.HasPrefix(b, a) {
				t.Fatalf("% x begins % x", a, b)
			}
		}
	}
}

// fewest is the least number of ops of those that make each table of one, found by trying all lists of at most three.
func fewest(x *table.Table, ops []api.Op) map[string]int {
	out := map[string]int{}
	lists(ops, 3, func(list []api.Op) {
		y := x.Clone()
		batch.Apply(y, list)
		made := form(y)
		if n, found := out[made]; !found || len(list) < n {
			out[made] = len(list)
		}
	})
	return out
}

// TestBetweenIsLeast asks for P12.4: each pair of tables of three keys, with all batches of at most three ops tried.
func TestBetweenIsLeast(t *testing.T) {
	values := []string{"", "x", "y"}
	tables := someTables(values...)
	for _, a := range tables {
		x := tableOf(a)
		least := fewest(x, someOps(values...))
		for _, b := range tables {
			y := tableOf(b)
			checkBetween(t, x, y, between(a, b))
			ops := batch.Between(x, y)
			checkApply(t, tableOf(a), ops, y)
			if n, found := least[form(y)]; !found || n != len(ops) {
				t.Errorf("Between %q and %q has %d ops, want %d", a, b, len(ops), n)
			}
			checkNormal(t, ops, ops)
		}
		checkBetween(t, x, x, nil)
	}
}

// anyText is mostly short, so that texts are often the same, or the beginnings of others.
func anyText(rnd *rand.Rand) string {
	size := rnd.IntN(4)
	if rnd.IntN(20) == 0 {
		size = []int{127, 128, 255, 300}[rnd.IntN(4)]
	}
	out := make([]byte, size)
	for i := range out {
		out[i] = "\x00\x01ab\x7f\x80\xff"[rnd.IntN(7)]
	}
	return string(out)
}

func anyOps(rnd *rand.Rand, most int) []api.Op {
	var out []api.Op
	for range rnd.IntN(most + 1) {
		op := api.Op{Delete: rnd.IntN(3) == 0, Key: anyText(rnd)}
		if !op.Delete || rnd.IntN(8) == 0 {
			op.Value = anyText(rnd)
		}
		out = append(out, op)
	}
	return out
}

// TestLongLives does any batches to a table, one after the other, and goes back by what lies between two moments.
func TestLongLives(t *testing.T) {
	rnd := rand.New(rand.NewPCG(1, 2))
	for range 40 {
		rows, x := map[string]string{}, table.New()
		olderRows, older := rows, x.Clone()
		for range 60 {
			ops := anyOps(rnd, 80)
			checkBatch(t, ops)
			rows = applied(rows, ops)
			if rnd.IntN(2) == 0 {
				ops = batch.Normal(ops)
			}
			checkApply(t, x, ops, tableOf(rows))
			checkBetween(t, older, x, between(olderRows, rows))
			checkBetween(t, x, older, between(rows, olderRows))
			checkApply(t, older.Clone(), batch.Between(older, x), x)
			if rnd.IntN(5) == 0 {
				olderRows, older = rows, x.Clone()
			}
		}
		if t.Failed() {
			return
		}
	}
}

// TestAnyBytes asks Decode for batches' bytes, cut anywhere, with other bytes here and there, or with pieces put in and left out.
func TestAnyBytes(t *testing.T) {
	const letters = "\x00\x00\x00\x01\x01\x02\x03a\x7f\x80\x81\xff"
	rnd := rand.New(rand.NewPCG(3, 4))
	for range 40000 {
		s, err := batch.Encode(batch.Normal(anyOps(rnd, 8)))
		if err != nil {
			t.Fatal(err)
		}
		checkBytes(t, s)
		for range 1 + rnd.IntN(3) {
			at, n := rnd.IntN(len(s)+1), rnd.IntN(len(letters))
			from := min(len(s), at+rnd.IntN(3))
			switch rnd.IntN(4) {
			case 0:
				s = s[:at] + s[from:]
			case 1:
				s = s[:at] + letters[n:n+1] + s[at:]
			case 2:
				s = s[:at] + strings.Repeat(letters[n:n+1], from-at) + s[from:]
			default:
				s = s[:at] + strings.Repeat("\xff", 9) + letters[n:n+1] + s[from:]
			}
			checkBytes(t, s)
		}
	}
}

// TestCutsOfAnyBatch asks for P12.2 of batches with more and longer texts.
func TestCutsOfAnyBatch(t *testing.T) {
	rnd := rand.New(rand.NewPCG(5, 6))
	for range 300 {
		s, err := batch.Encode(batch.Normal(anyOps(rnd, 12)))
		if err != nil {
			t.Fatal(err)
		}
		checkCuts(t, s)
	}
}
