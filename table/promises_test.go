package table_test

import (
	"iter"
	"math/rand/v2"
	"remit/api"
	"remit/table"
	"slices"
	"testing"
)

// model says the chapter's words in another way: it is the list of the puts and deletes that were done, oldest first.
type model []api.Op

// get looks for the last word on a key.
func (m model) get(key string) (string, bool) {
	for i := len(m) - 1; i >= 0; i-- {
		if m[i].Key == key {
			return m[i].Value, !m[i].Delete
		}
	}
	return "", false
}

// rows gathers the keys that may be, sorts them, and asks for each.
func (m model) rows(may func(key string) bool) []api.Row {
	var keys []string
	for _, op := range m {
		if may(op.Key) {
			keys = append(keys, op.Key)
		}
	}
	slices.Sort(keys)
	var out []api.Row
	for _, key := range slices.Compact(keys) {
		if value, found := m.get(key); found {
			out = append(out, api.Row{Key: key, Value: value})
		}
	}
	return out
}

func (m model) all() []api.Row { return m.rows(func(string) bool { return true }) }

func (m model) from(lo string) []api.Row {
	return m.rows(func(key string) bool { return key >= lo })
}

func (m model) between(lo, hi string) []api.Row {
	return m.rows(func(key string) bool { return key >= lo && key < hi })
}

// moment is an iterator, and what it is said to tell.
type moment struct {
	what string
	seq  iter.Seq2[string, string]
	want []api.Row
}

// pair is a table and the model of it.
type pair struct {
	x *table.Table
	m model
}

func (p *pair) put(t *testing.T, key, value string) {
	t.Helper()
	_, want := p.m.get(key)
	if got := p.x.Put(key, value); got != want {
		t.Fatalf("Put(%q, %q): %v", key, value, got)
	}
	// Room of its own, since the list that it is made of may go on in another way.
	p.m = append(slices.Clip(p.m), api.Op{Key: key, Value: value})
}

func (p *pair) delete(t *testing.T, key string) {
	t.Helper()
	_, want := p.m.get(key)
	if got := p.x.Delete(key); got != want {
		t.Fatalf("Delete(%q): %v", key, got)
	}
	p.m = append(slices.Clip(p.m), api.Op{Delete: true, Key: key})
}

func (p *pair) clone() *pair { return &pair{p.x.Clone(), p.m} }

func (p *pair) ranged(lo, hi string) moment {
	return moment{"Range(" + lo + ", " + hi + ")", p.x.Range(lo, hi), p.m.between(lo, hi)}
}

func (p *pair) from(lo string) moment {
	return moment{"From(" + lo + ")", p.x.From(lo), p.m.from(lo)}
}

func (p *pair) back(lo, hi string) moment {
	return moment{"Back(" + lo + ", " + hi + ")", p.x.Back(lo, hi), turned(p.m.between(lo, hi))}
}

// check asks the table for all that it tells without bounds.
func (p *pair) check(t *testing.T) {
	t.Helper()
	want := p.m.all()
	if got := p.x.Rows(); !slices.Equal(got, want) {
		t.Fatalf("Rows: %q, want %q", got, want)
	}
	bytes := 0
	for _, row := range want {
		bytes += len(row.Key + row.Value)
	}
	if p.x.Len() != len(want) || p.x.Bytes() != bytes {
		t.Fatalf("Len and Bytes: %d, %d, want %d, %d", p.x.Len(), p.x.Bytes(), len(want), bytes)
	}
}

// checkKeys asks the table for each of these keys, and for all iterators that have them as bounds.
func (p *pair) checkKeys(t *testing.T, keys []string) {
	t.Helper()
	for _, lo := range keys {
		want, wantFound := p.m.get(lo)
		if got, found := p.x.Get(lo); got != want || found != wantFound {
			t.Fatalf("Get(%q): %q, %v, want %q, %v", lo, got, found, want, wantFound)
		}
		p.from(lo).check(t)
		for _, hi := range keys {
			p.ranged(lo, hi).check(t)
			p.back(lo, hi).check(t)
		}
	}
}

func (x moment) check(t *testing.T) {
	t.Helper()
	if got := told(x.seq); !slices.Equal(got, x.want) {
		t.Fatalf("%q tells %q, want %q", x.what, got, x.want)
	}
}

// TestAllOrdersOfCalls asks for P11.1 and P11.2: each list of five calls over three keys, with a clone and iterators made behind each of them, and all asked behind the last one.
func TestAllOrdersOfCalls(t *testing.T) {
	keys := []string{"", "a", "ab"}
	bounds := []string{"", "\x00", "a", "ab", "b"}
	for n := range 9 * 9 * 9 * 9 * 9 {
		p := &pair{x: table.New()}
		var clones []*pair
		var moments []moment
		for range 5 {
			switch key := keys[n%3]; n / 3 % 3 {
			case 0:
				p.delete(t, key)
			case 1:
				p.put(t, key, "")
			default:
				p.put(t, key, "value")
			}
			n /= 9
			clones = append(clones, p.clone())
			moments = append(moments, p.from("\x00"), p.back("", "ab"))
		}
		p.check(t)
		p.checkKeys(t, bounds)
		for _, c := range clones {
			c.check(t)
		}
		for _, x := range moments {
			x.check(t)
		}
	}
}

// anyText is short, so that texts are often the same, or the beginnings of others.
func anyText(rnd *rand.Rand) string {
	out := make([]byte, rnd.IntN(4))
	for i := range out {
		out[i] = "\x00ab\x7f\x80\xff"[rnd.IntN(6)]
	}
	return string(out)
}

// life is several tables, and iterators of any of their moments.
type life struct {
	rnd     *rand.Rand
	pairs   []*pair
	moments []moment
}

func (l *life) any() *pair { return l.pairs[l.rnd.IntN(len(l.pairs))] }

// anyRows is rows in any order, some keys several times, and the model of a table of them.
func (l *life) anyRows() ([]api.Row, model) {
	var rows []api.Row
	var m model
	for range l.rnd.IntN(60) {
		row := api.Row{Key: anyText(l.rnd), Value: anyText(l.rnd)}
		rows = append(rows, row)
		m = append(m, api.Op{Key: row.Key, Value: row.Value})
	}
	return rows, m
}

// change does one call that changes a table, or puts a new one in the place of another.
func (l *life) change(t *testing.T) {
	t.Helper()
	switch n := l.rnd.IntN(100); {
	case n < 55:
		l.any().put(t, anyText(l.rnd), anyText(l.rnd))
	case n < 90:
		l.any().delete(t, anyText(l.rnd))
	case n < 96:
		// Of any to any: of itself too, and over one of which iterators are still asked.
		l.pairs[l.rnd.IntN(len(l.pairs))] = l.any().clone()
	case n < 98:
		rows, m := l.anyRows()
		l.pairs[l.rnd.IntN(len(l.pairs))] = &pair{table.Of(rows), m}
	default:
		l.pairs[l.rnd.IntN(len(l.pairs))] = &pair{x: table.New()}
	}
}

// look makes an iterator, and keeps it among the last ones.
func (l *life) look() {
	p, lo, hi := l.any(), anyText(l.rnd), anyText(l.rnd)
	made := p.ranged(lo, hi)
	switch l.rnd.IntN(3) {
	case 0:
		made = p.from(lo)
	case 1:
		made = p.back(lo, hi)
	}
	if len(l.moments) < 20 {
		l.moments = append(l.moments, made)
	} else {
		l.moments[l.rnd.IntN(20)] = made
	}
}

// goOver goes over a kept iterator, stops it anywhere, and lets changes and other iterators come between its steps.
func (l *life) goOver(t *testing.T) {
	t.Helper()
	x := l.moments[l.rnd.IntN(len(l.moments))]
	stop := l.rnd.IntN(len(x.want) + 2)
	var got []api.Row
	for key, value := range x.seq {
		got = append(got, api.Row{Key: key, Value: value})
		if len(got) > stop {
			break
		}
		for range l.rnd.IntN(3) {
			l.change(t)
			l.moments[l.rnd.IntN(len(l.moments))].check(t)
		}
	}
	if want := x.want[:min(stop+1, len(x.want))]; !slices.Equal(got, want) {
		t.Fatalf("%q tells %q up to step %d, want %q", x.what, got, stop, want)
	}
}

// TestLongLives asks for P11.1 and P11.2.
func TestLongLives(t *testing.T) {
	for seed := range uint64(60) {
		l := &life{rnd: rand.New(rand.NewPCG(seed, 1))}
		for range 4 {
			rows, m := l.anyRows()
			l.pairs = append(l.pairs, &pair{table.Of(rows), m})
		}
		for range 150 {
			l.change(t)
			l.look()
			l.goOver(t)
			p := l.any()
			p.check(t)
			p.checkKeys(t, []string{anyText(l.rnd), anyText(l.rnd)})
		}
		for _, p := range l.pairs {
			p.check(t)
		}
		for _, x := range l.moments {
			x.check(t)
			x.check(t)
		}
	}
}

// anyTable is a table of up to size rows, behind puts and deletes.
func anyTable(rnd *rand.Rand, size int) *table.Table {
	x := table.New()
	for range rnd.IntN(size + 1) {
		x.Put(anyText(rnd), anyText(rnd))
		if rnd.IntN(3) == 0 {
			x.Delete(anyText(rnd))
		}
	}
	return x
}

// TestPartsAndWhole asks for P11.3, of what the table itself tells.
func TestPartsAndWhole(t *testing.T) {
	rnd := rand.New(rand.NewPCG(5, 6))
	parts := 0
	for range 20000 {
		x := anyTable(rnd, 40)
		lo, hi := anyText(rnd), anyText(rnd)
		ranged := told(x.Range(lo, hi))
		if got := told(x.Back(lo, hi)); !slices.Equal(got, turned(ranged)) {
			t.Fatalf("Back(%q, %q) tells %q, Range %q", lo, hi, got, ranged)
		}
		if lo > hi {
			if len(ranged) > 0 {
				t.Fatalf("Range(%q, %q) tells %q", lo, hi, ranged)
			}
			continue
		}
		rest, whole := told(x.From(hi)), told(x.From(lo))
		if !slices.Equal(slices.Concat(ranged, rest), whole) {
			t.Fatalf("Range(%q, %q) tells %q, From(%q) %q, From(%q) %q", lo, hi, ranged, hi, rest, lo, whole)
		}
		if len(ranged) > 0 && len(rest) > 0 {
			parts++
		}
	}
	if parts < 5000 {
		t.Errorf("only %d times a row in both parts", parts)
	}
}

// numbered is a key whose order is the number's.
func numbered(n int) string { return string([]byte{byte(n >> 16), byte(n >> 8), byte(n)}) }

// TestManyRows asks for tables that are too great for the model: rows in several orders, of which only each third stays.
func TestManyRows(t *testing.T) {
	const size = 50000
	// Each stride has no divisor in common with the size, so that it comes to every number.
	for _, stride := range []int{1, size - 1, 7919, 31} {
		x := table.New()
		var want []api.Row
		for i := range size {
			checkPut(t, x, numbered(i*stride%size), "value", false)
			if i%3 == 0 {
				want = append(want, api.Row{Key: numbered(i), Value: "value"})
			}
		}
		full := x.Clone()
		all := x.From("")
		for i := range size {
			if n := i * stride % size; n%3 != 0 {
				checkDelete(t, x, numbered(n), true)
			}
		}
		if got := x.Rows(); !slices.Equal(got, want) || x.Len() != len(want) || x.Bytes() != 8*len(want) {
			t.Fatalf("stride %d: %d rows, Len and Bytes %d, %d, want %d", stride, len(got), x.Len(), x.Bytes(), len(want))
		}
		if got := full.Rows(); len(got) != size || full.Bytes() != 8*size || !slices.Equal(told(all), got) {
			t.Fatalf("stride %d: the clone has %d rows", stride, len(got))
		}
		lo, hi := 3*len(want)/4, len(want)-7
		checkTold(t, "Range of many", x.Range(want[lo].Key, want[hi].Key), want[lo:hi])
		checkTold(t, "Back of many", x.Back(want[lo].Key, want[hi].Key), turned(want[lo:hi]))
	}
}

// TestSameRowsByOtherWays asks whether tables tell the same that came to the same rows by other calls.
func TestSameRowsByOtherWays(t *testing.T) {
	rnd := rand.New(rand.NewPCG(7, 8))
	for range 2000 {
		x := anyTable(rnd, 60)
		rows := x.Rows()
		rnd.Shuffle(len(rows), func(i, k int) { rows[i], rows[k] = rows[k], rows[i] })
		y := table.Of(rows)
		if x.Len() != y.Len() || x.Bytes() != y.Bytes() || !slices.Equal(x.Rows(), y.Rows()) {
			t.Fatalf("of the rows %q: %q", x.Rows(), y.Rows())
		}
		lo, hi := anyText(rnd), anyText(rnd)
		checkTold(t, "Range", y.Range(lo, hi), told(x.Range(lo, hi)))
		checkTold(t, "Back", y.Back(lo, hi), told(x.Back(lo, hi)))
		checkTold(t, "From", y.From(lo), told(x.From(lo)))
	}
}
