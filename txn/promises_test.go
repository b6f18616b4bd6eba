package txn_test

import (
	"encoding/binary"
	"maps"
	"math/rand/v2"
	"remit/api"
	"remit/disk"
	"remit/store"
	"remit/txn"
	"slices"
	"strconv"
	"strings"
	"testing"
)

// model says the chapter's words in another way: it keeps the steps, and does them all anew to the store's rows whenever it is asked.
type model struct {
	stored map[string]string
	steps  []api.Op
	ended  bool
}

func (m *model) seen() map[string]string {
	if m.ended {
		return nil
	}
	return applied(m.stored, m.steps...)
}

func (m *model) ops() []api.Op {
	seen := m.seen()
	both := maps.Clone(m.stored)
	maps.Copy(both, seen)
	var out []api.Op
	for _, key := range slices.Sorted(maps.Keys(both)) {
		old, was := m.stored[key]
		value, is := seen[key]
		switch {
		case m.ended || was == is && old == value:
		case is:
			out = append(out, put(key, value))
		default:
			out = append(out, gone(key))
		}
	}
	return out
}

func textSize(s string) int {
	return len(binary.AppendUvarint(nil, uint64(len(s)))) + len(s)
}

// sizeOf is the length of a snapshot.
func sizeOf(rows map[string]string) int {
	out := len(binary.AppendUvarint(nil, uint64(len(rows))))
	for key, value := range rows {
		out += textSize(key) + textSize(value)
	}
	return out
}

func (m *model) size() int {
	if m.ended {
		return 0
	}
	return sizeOf(m.seen())
}

func (m *model) step(op api.Op) error {
	if m.ended {
		return api.ErrClosed
	}
	m.steps = append(slices.Clip(m.steps), op)
	return nil
}

func (m *model) back(mark int) error {
	if m.ended {
		return api.ErrClosed
	}
	if mark < 0 || mark > len(m.steps) {
		return api.ErrRange
	}
	m.steps = m.steps[:mark]
	return nil
}

func (m *model) end() { m.steps, m.ended = nil, true }

// pair is a transaction and the model of it.
type pair struct {
	x *txn.Txn
	m *model
}

func (p pair) step(t *testing.T, op api.Op) {
	t.Helper()
	if got, want := step(p.x, op), p.m.step(op); got != want {
		t.Fatalf("step %.40v: %v, want %v", op, got, want)
	}
}

func (p pair) back(t *testing.T, mark int) {
	t.Helper()
	if got, want := p.x.Back(mark), p.m.back(mark); got != want {
		t.Fatalf("Back(%d): %v, want %v", mark, got, want)
	}
}

// check asks for everything that is told without bounds.
func (p pair) check(t *testing.T) {
	t.Helper()
	if got, want := p.x.Ops(), p.m.ops(); !slices.Equal(got, want) {
		t.Fatalf("Ops() = %.40v, want %.40v", got, want)
	}
	if got, want := p.x.Size(), p.m.size(); got != want {
		t.Fatalf("Size() = %d, want %d", got, want)
	}
	if got, want := p.x.Mark(), len(p.m.steps); got != want {
		t.Fatalf("Mark() = %d, want %d", got, want)
	}
}

// checkKeys asks for these keys, and for the rows between each two of them.
func (p pair) checkKeys(t *testing.T, keys []string) {
	t.Helper()
	seen := p.m.seen()
	for _, lo := range keys {
		want, wantFound := seen[lo]
		if got, found := p.x.Get(lo); got != want || found != wantFound {
			t.Fatalf("Get(%q) = %.40q, %v, want %.40q, %v", lo, got, found, want, wantFound)
		}
		for _, hi := range keys {
			if got, want := told(p.x.Range(lo, hi)), between(seen, lo, hi); !slices.Equal(got, want) {
				t.Fatalf("Range(%q, %q): %.40q, want %.40q", lo, hi, got, want)
			}
		}
	}
}

// answers are all that a transaction tells over these keys, as one text.
func answers(x *txn.Txn, keys []string) string {
	out := strconv.Itoa(x.Mark()) + " " + strconv.Itoa(x.Size())
	for _, op := range x.Ops() {
		out += " " + strconv.FormatBool(op.Delete) + strconv.Quote(op.Key) + strconv.Quote(op.Value)
	}
	for _, lo := range keys {
		value, found := x.Get(lo)
		out += " " + strconv.Quote(value) + strconv.FormatBool(found)
		for _, hi := range keys {
			for key, value := range x.Range(lo, hi) {
				out += " " + strconv.Quote(key) + strconv.Quote(value)
			}
		}
	}
	return out
}

// trail is a pair, with what it told at each number of steps.
type trail struct {
	pair
	at []string
}

// bounds are keys of rows, and texts beside them.
func bounds() []string { return []string{"", "a", "a\x00", "b", "c", "\xff"} }

// do does one of thirteen calls, and holds what is told behind a Back against what was told ahead of the steps.
func (r *trail) do(t *testing.T, call int) {
	t.Helper()
	keys := []string{"a", "b", "c"}
	switch {
	case call < 9:
		r.at = append(r.at[:len(r.m.steps)], answers(r.x, bounds()))
		r.step(t, []api.Op{put(keys[call%3], "1"), put(keys[call%3], "2"), gone(keys[call%3])}[call/3])
		return
	case call == 9:
		r.back(t, 0)
	case call == 10:
		r.back(t, max(len(r.m.steps)-1, 0))
	case call == 11:
		r.back(t, len(r.m.steps)+1)
		return
	default:
		r.back(t, len(r.m.steps)/2)
	}
	if n := len(r.m.steps); n < len(r.at) && answers(r.x, bounds()) != r.at[n] {
		t.Fatalf("behind Back(%d): %s, ahead of it: %s", n, answers(r.x, bounds()), r.at[n])
	}
}

// TestAllOrdersOfCalls asks for P14.1, P14.3 and P14.4: each list of four calls, and then a Commit, whose bytes are those of a commit of the model's ops, or none.
func TestAllOrdersOfCalls(t *testing.T) {
	const calls, length = 13, 4
	d, _ := opened(t, small, rowsOf("a", "1", "b", "2"))
	image := d.Image()
	written := 0
	for n := range calls * calls * calls * calls {
		d, err := disk.From(image)
		if err != nil {
			t.Fatal(err)
		}
		s := reopened(t, d)
		stored := rowsOf("a", "1", "b", "2")
		r := &trail{pair: pair{txn.Begin(s), &model{stored: stored}}}
		for range length {
			r.do(t, n%calls)
			n /= calls
		}
		r.check(t)
		r.checkKeys(t, bounds())
		ops, seen := r.m.ops(), r.m.seen()
		before, version := countsOf(d), s.Version()
		checkError(t, "Commit", r.x.Commit(), nil)
		r.m.end()
		r.check(t)
		r.checkKeys(t, bounds())
		checkStored(t, s, seen)
		if got := countsOf(d); got.flushes-before.flushes != min(len(ops), 1) || got.writes-before.writes != min(len(ops), 1) || s.Version() != version {
			t.Fatalf("a Commit of %v: %v behind %v", ops, got, before)
		}
		written += min(len(ops), 1)
	}
	if all := calls * calls * calls * calls; written < all/2 || written > all*4/5 {
		t.Errorf("%d of %d have written", written, all)
	}
}

// TestAllWaysToEnd asks for P14.1 and P14.2 behind the end, with steps and without.
func TestAllWaysToEnd(t *testing.T) {
	before := rowsOf("a", "1")
	for _, steps := range [][]api.Op{nil, {put("a", "1")}, {put("c", "3"), gone("a")}} {
		_, s := opened(t, small, before)
		x, y := txn.Begin(s), txn.Begin(s)
		do(t, x, steps...)
		do(t, y, steps...)
		x.Drop()
		checkClosed(t, x)
		checkStored(t, s, before)
		checkError(t, "Commit", y.Commit(), nil)
		checkClosed(t, y)
		checkStored(t, s, applied(before, steps...))
	}
}

// moment is what a Range is said to tell.
type moment struct {
	rows func(yield func(string, string) bool)
	want []api.Row
}

// life is a disk, the store over it, transactions of it, and iterators of any of their moments.
type life struct {
	rnd     *rand.Rand
	d       *disk.Disk
	s       *store.Store
	stored  map[string]string
	pairs   []pair
	moments []moment
	// down tells whether the store is.
	down bool
	// found counts what the calls answered.
	found map[string]int
}

// anyText is short, so that texts are often the same, or the beginnings of others.
func (l *life) anyText() string {
	out := make([]byte, l.rnd.IntN(3))
	for i := range out {
		out[i] = "\x00ab\xff"[l.rnd.IntN(4)]
	}
	return string(out)
}

// anyValue is now and then so long that some of them fill the store, or the log.
func (l *life) anyValue() string {
	switch l.rnd.IntN(20) {
	case 0:
		return strings.Repeat("x", l.rnd.IntN(1500))
	case 1:
		return strings.Repeat("y", l.rnd.IntN(100)*l.rnd.IntN(52))
	}
	return l.anyText()
}

func (l *life) any() int { return l.rnd.IntN(len(l.pairs)) }

func (l *life) begin() pair { return pair{txn.Begin(l.s), &model{stored: l.stored}} }

// beginAll begins all anew: of those over a store that was changed nothing is promised.
func (l *life) beginAll() {
	for i := range l.pairs {
		l.pairs[i] = l.begin()
	}
}

// open opens the store behind a crash.
func (l *life) open(t *testing.T, stored map[string]string) {
	t.Helper()
	l.s, l.stored, l.down = reopened(t, l.d), stored, false
	l.beginAll()
}

// wanted is what the store's Commit is said to answer.
func (l *life) wanted(ops []api.Op, seen map[string]string) error {
	bytes := len(binary.AppendUvarint(nil, uint64(len(ops))))
	for _, op := range ops {
		bytes += 1 + textSize(op.Key)
		if !op.Delete {
			bytes += textSize(op.Value)
		}
	}
	switch {
	case len(ops) == 0:
		return nil
	case l.down:
		return api.ErrDown
	case bytes > l.s.Largest():
		return api.ErrLarge
	case sizeOf(seen) > l.s.Room():
		return api.ErrFull
	}
	return nil
}

// name is what is counted of an answer.
func name(what string, err error) string {
	if err == nil {
		return what + " nil"
	}
	return what + " " + err.Error()
}

// commit ends one, now and then with the power going in it.
func (l *life) commit(t *testing.T, p pair) {
	t.Helper()
	ops, seen, ended := p.m.ops(), p.m.seen(), p.m.ended
	if !l.down && l.rnd.IntN(6) == 0 {
		l.d.Arm(l.rnd.IntN(3))
	}
	before := countsOf(l.d)
	err := p.x.Commit()
	p.m.end()
	p.check(t)
	want := l.wanted(ops, seen)
	switch {
	case ended:
		want = api.ErrClosed
	case want == nil && err == api.ErrDown && l.d.Off():
		l.crash(t, seen)
		return
	}
	if err != want {
		t.Fatalf("Commit of %.40v: %v, want %v", ops, err, want)
	}
	l.found[name("Commit", err)]++
	if len(ops) == 0 {
		l.found["Commit of nothing"]++
	}
	if (err != nil || len(ops) == 0) && countsOf(l.d) != before {
		t.Fatalf("a Commit that answered %v has written", err)
	}
	if err == nil && len(ops) > 0 {
		l.stored = seen
		l.beginAll()
	}
	checkStored(t, l.s, l.stored)
	l.d.Arm(-1)
}

// crash asks behind a Commit at which the power went for nothing or all of it.
func (l *life) crash(t *testing.T, seen map[string]string) {
	t.Helper()
	checkStored(t, l.s, l.stored)
	fate := api.Fate{Torn: -1}
	for range 30 {
		fate.Kept = append(fate.Kept, l.rnd.IntN(4) > 0)
	}
	l.d.Crash(fate)
	behind := reopened(t, l.d).Rows()
	switch {
	case slices.Equal(behind, between(l.stored, "", "\xff\xff\xff")):
		l.found["nothing of a Commit"]++
		l.open(t, l.stored)
	case slices.Equal(behind, between(seen, "", "\xff\xff\xff")):
		l.found["all of a Commit"]++
		l.open(t, seen)
	default:
		t.Fatalf("behind a crash: %.40q, neither %.40q nor %.40q", behind, l.stored, seen)
	}
}

// fail lets the power go behind the back of the transactions, which go on over the store that is down.
func (l *life) fail(t *testing.T) {
	t.Helper()
	if l.down {
		l.d.Crash(api.Fate{Torn: -1})
		l.open(t, l.stored)
		return
	}
	l.d.Arm(0)
	checkError(t, "Compact", l.s.Compact(), api.ErrDown)
	l.d.Crash(api.Fate{Torn: -1})
	l.down = true
}

// step does any call.
func (l *life) step(t *testing.T) {
	t.Helper()
	p := l.pairs[l.any()]
	switch n := l.rnd.IntN(100); {
	case n < 45:
		p.step(t, put(l.anyText(), l.anyValue()))
	case n < 70:
		p.step(t, gone(l.anyText()))
	case n < 82:
		mark := l.rnd.IntN(len(p.m.steps)+3) - 1
		err := p.x.Back(mark)
		if want := p.m.back(mark); err != want {
			t.Fatalf("Back(%d): %v, want %v", mark, err, want)
		}
		l.found[name("Back", err)]++
	case n < 90:
		l.commit(t, p)
	case n < 92:
		p.x.Drop()
		p.m.end()
	case n < 94:
		// So much that the store refuses it now and then.
		for range l.rnd.IntN(7) {
			p.step(t, put(l.anyText(), strings.Repeat("z", 900+l.rnd.IntN(900))))
		}
		l.commit(t, p)
	case n < 97:
		l.pairs[l.any()] = l.begin()
	case n < 98:
		if !l.down {
			checkError(t, "Compact", l.s.Compact(), nil)
		}
	default:
		l.fail(t)
	}
}

// look makes an iterator, and keeps it among the last ones.
func (l *life) look() {
	p, lo, hi := l.pairs[l.any()], l.anyText(), l.anyText()
	made := moment{p.x.Range(lo, hi), between(p.m.seen(), lo, hi)}
	if len(l.moments) < 10 {
		l.moments = append(l.moments, made)
		return
	}
	l.moments[l.rnd.IntN(len(l.moments))] = made
}

// goOver goes over a kept iterator, stops it anywhere, and lets steps come between.
func (l *life) goOver(t *testing.T) {
	t.Helper()
	x := l.moments[l.rnd.IntN(len(l.moments))]
	stop := l.rnd.IntN(len(x.want) + 2)
	var got []api.Row
	for key, value := range x.rows {
		got = append(got, row(key, value))
		if len(got) > stop {
			break
		}
		l.pairs[l.any()].step(t, put(l.anyText(), "between"))
	}
	if want := x.want[:min(stop+1, len(x.want))]; !slices.Equal(got, want) {
		t.Fatalf("an iterator tells %.40q up to step %d, want %.40q", got, stop, want)
	}
}

// TestLongLives asks for P14.1 to P14.4: several transactions at a time, commits that are taken, refused and cut off, and iterators that outlive them.
func TestLongLives(t *testing.T) {
	found := map[string]int{}
	for seed := range uint64(150) {
		stored := rowsOf("", "0", "a", "1", "ab", "2", "b", "", "\xff", "4")
		l := &life{rnd: rand.New(rand.NewPCG(seed, 14)), stored: stored, pairs: make([]pair, 3), found: found}
		l.d, l.s = opened(t, small, stored)
		l.beginAll()
		for range 200 {
			l.step(t)
			l.look()
			l.goOver(t)
			p := l.pairs[l.any()]
			p.check(t)
			p.checkKeys(t, []string{l.anyText(), l.anyText()})
		}
		for _, x := range l.moments {
			if got := told(x.rows); !slices.Equal(got, x.want) {
				t.Fatalf("at the end an iterator tells %.40q, want %.40q", got, x.want)
			}
		}
		if !l.down {
			checkStored(t, reopened(t, l.d), l.stored)
		}
	}
	for what, least := range map[string]int{
		"Commit nil": 300, "Commit of nothing": 100, name("Commit", api.ErrClosed): 20, name("Commit", api.ErrDown): 100,
		name("Commit", api.ErrFull): 20, name("Commit", api.ErrLarge): 20, "nothing of a Commit": 30, "all of a Commit": 30,
		"Back nil": 500, name("Back", api.ErrRange): 100, name("Back", api.ErrClosed): 20,
	} {
		if found[what] < least {
			t.Errorf("%s: only %d times", what, found[what])
		}
	}
}
