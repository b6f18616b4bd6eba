package txn_test

import (
	"iter"
	"maps"
	"remit/api"
	"remit/disk"
	"remit/store"
	"remit/txn"
	"slices"
	"strings"
	"testing"
)

// small is the least disk: a snapshot takes 4680 bytes at most, a batch 5122.
const small = 64

func put(key, value string) api.Op { return api.Op{Key: key, Value: value} }

func gone(key string) api.Op { return api.Op{Delete: true, Key: key} }

func row(key, value string) api.Row { return api.Row{Key: key, Value: value} }

// rowsOf are rows, by their keys and values.
func rowsOf(pairs ...string) map[string]string {
	out := map[string]string{}
	for i := 0; i < len(pairs); i += 2 {
		out[pairs[i]] = pairs[i+1]
	}
	return out
}

// between are the rows from lo on and below hi, by rising key.
func between(rows map[string]string, lo, hi string) []api.Row {
	var out []api.Row
	for _, key := range slices.Sorted(maps.Keys(rows)) {
		if key >= lo && key < hi {
			out = append(out, row(key, rows[key]))
		}
	}
	return out
}

// applied are the rows behind some ops.
func applied(rows map[string]string, ops ...api.Op) map[string]string {
	out := maps.Clone(rows)
	for _, op := range ops {
		delete(out, op.Key)
		if !op.Delete {
			out[op.Key] = op.Value
		}
	}
	return out
}

// opsOf are the puts of rows.
func opsOf(rows map[string]string) []api.Op {
	var out []api.Op
	for key, value := range rows {
		out = append(out, put(key, value))
	}
	return out
}

// opened is a store with these rows over a new disk.
func opened(t *testing.T, sectors int, rows map[string]string) (*disk.Disk, *store.Store) {
	t.Helper()
	d, err := disk.New(sectors)
	if err != nil {
		t.Fatal(err)
	}
	if err := store.Format(d, opsOf(rows)); err != nil {
		t.Fatalf("Format: %v", err)
	}
	return d, reopened(t, d)
}

func reopened(t *testing.T, d *disk.Disk) *store.Store {
	t.Helper()
	s, err := store.Open(d)
	if err != nil {
		t.Fatalf("Open: %v", err)
	}
	return s
}

// do does steps, each of which must be taken.
func do(t *testing.T, x *txn.Txn, ops ...api.Op) {
	t.Helper()
	for _, op := range ops {
		if err := step(x, op); err != nil {
			t.Fatalf("%v: %v", op.Key, err)
		}
	}
}

func step(x *txn.Txn, op api.Op) error {
	if op.Delete {
		return x.Delete(op.Key)
	}
	return x.Put(op.Key, op.Value)
}

func back(t *testing.T, x *txn.Txn, mark int) {
	t.Helper()
	if err := x.Back(mark); err != nil {
		t.Fatalf("Back(%d): %v", mark, err)
	}
}

func told(rows iter.Seq2[string, string]) []api.Row {
	var out []api.Row
	for key, value := range rows {
		out = append(out, row(key, value))
	}
	return out
}

func checkOps(t *testing.T, x *txn.Txn, want ...api.Op) {
	t.Helper()
	if got := x.Ops(); !slices.Equal(got, want) {
		t.Errorf("Ops() = %.200v, want %.200v", got, want)
	}
}

func checkRange(t *testing.T, x *txn.Txn, lo, hi string, want ...api.Row) {
	t.Helper()
	if got := told(x.Range(lo, hi)); !slices.Equal(got, want) {
		t.Errorf("Range(%q, %q): %.200q, want %.200q", lo, hi, got, want)
	}
}

func checkGet(t *testing.T, x *txn.Txn, key, want string, wantFound bool) {
	t.Helper()
	if got, found := x.Get(key); got != want || found != wantFound {
		t.Errorf("Get(%q) = %.40q, %v, want %.40q, %v", key, got, found, want, wantFound)
	}
}

func checkError(t *testing.T, what string, got, want error) {
	t.Helper()
	if got != want {
		t.Errorf("%s: %v, want %v", what, got, want)
	}
}

// checkClosed asks a transaction that has ended for everything.
func checkClosed(t *testing.T, x *txn.Txn) {
	t.Helper()
	for range 2 {
		checkError(t, "Put", x.Put("z", "9"), api.ErrClosed)
		checkError(t, "Delete", x.Delete("a"), api.ErrClosed)
		for _, mark := range []int{-1, 0, 1, 100} {
			checkError(t, "Back", x.Back(mark), api.ErrClosed)
		}
		checkGet(t, x, "a", "", false)
		checkGet(t, x, "z", "", false)
		checkRange(t, x, "", "\xff\xff")
		checkOps(t, x)
		if x.Mark() != 0 || x.Size() != 0 {
			t.Errorf("Mark and Size of an ended one: %d and %d", x.Mark(), x.Size())
		}
		checkError(t, "Commit", x.Commit(), api.ErrClosed)
		x.Drop()
	}
}

// checkStored asks a store for its rows.
func checkStored(t *testing.T, s *store.Store, want map[string]string) {
	t.Helper()
	if got := s.Rows(); !slices.Equal(got, between(want, "", "\xff\xff\xff")) {
		t.Errorf("the store has %.200q, want %.200q", got, want)
	}
}

// counts are the writes and flushes of a disk.
type counts struct{ writes, flushes int }

func countsOf(d *disk.Disk) counts {
	writes, flushes := d.Counts()
	return counts{writes, flushes}
}

// TestChapterExamples goes through the examples of the chapter.
func TestChapterExamples(t *testing.T) {
	d, s := opened(t, small, rowsOf("a", "1", "b", "2"))
	before := countsOf(d)
	x := txn.Begin(s)
	do(t, x, put("c", "3"), gone("b"), put("a", "1"))
	if x.Mark() != 3 {
		t.Errorf("Mark() = %d", x.Mark())
	}
	checkOps(t, x, gone("b"), put("c", "3"))
	checkRange(t, x, "a", "z", row("a", "1"), row("c", "3"))
	back(t, x, 1)
	checkOps(t, x, put("c", "3"))
	checkError(t, "Back(2)", x.Back(2), api.ErrRange)
	do(t, x, put("c", "4"))
	back(t, x, 0)
	checkError(t, "Commit", x.Commit(), nil)
	if countsOf(d) != before || s.Version() != 2 {
		t.Errorf("a commit of nothing: %v behind %v, version %d", countsOf(d), before, s.Version())
	}
	checkError(t, "Put", x.Put("c", "3"), api.ErrClosed)
	checkError(t, "Commit", x.Commit(), api.ErrClosed)
	checkGet(t, x, "a", "", false)
	checkClosed(t, x)
	checkStored(t, s, rowsOf("a", "1", "b", "2"))
}

// TestBegin asks for a transaction without steps: over rows, and over none.
func TestBegin(t *testing.T) {
	for _, rows := range []map[string]string{rowsOf(), rowsOf("", "0", "a", "1", "a\x00", "", "b", "2")} {
		_, s := opened(t, small, rows)
		x := txn.Begin(s)
		if x.Mark() != 0 || x.Size() != s.Size() {
			t.Errorf("Mark and Size: %d and %d", x.Mark(), x.Size())
		}
		checkOps(t, x)
		checkRange(t, x, "", "\xff", between(rows, "", "\xff")...)
		checkError(t, "Back(0)", x.Back(0), nil)
		checkError(t, "Commit", x.Commit(), nil)
		checkClosed(t, x)
		checkStored(t, s, rows)
	}
}

// TestOwnWritesAreSeen asks Get and Range behind each kind of step over each kind of row.
func TestOwnWritesAreSeen(t *testing.T) {
	_, s := opened(t, small, rowsOf("b", "2", "d", "4"))
	x := txn.Begin(s)
	do(t, x, put("a", "1"), put("b", "3"), put("c", ""), gone("d"), gone("e"), put("", "0"))
	checkGet(t, x, "", "0", true)
	checkGet(t, x, "a", "1", true)
	checkGet(t, x, "b", "3", true)
	checkGet(t, x, "c", "", true)
	checkGet(t, x, "d", "", false)
	checkGet(t, x, "e", "", false)
	checkGet(t, x, "a\x00", "", false)
	all := []api.Row{row("", "0"), row("a", "1"), row("b", "3"), row("c", "")}
	checkRange(t, x, "", "\xff", all...)
	checkRange(t, x, "", "", nil...)
	checkRange(t, x, "\xff", "", nil...)
	checkRange(t, x, "c", "b", nil...)
	checkRange(t, x, "b", "b", nil...)
	checkRange(t, x, "", "b", all[:2]...)
	checkRange(t, x, "b", "b\x00", all[2:3]...)
	checkRange(t, x, "b\x00", "d\x00", all[3:]...)
	checkOps(t, x, put("", "0"), put("a", "1"), put("b", "3"), put("c", ""), gone("d"))
	if x.Mark() != 6 {
		t.Errorf("Mark() = %d", x.Mark())
	}
	checkStored(t, s, rowsOf("b", "2", "d", "4"))
}

// TestSetBack asks for P14.4: each way in which a key comes back to what the store has.
func TestSetBack(t *testing.T) {
	for _, steps := range [][]api.Op{
		{put("a", "1")},
		{gone("z")},
		{put("a", "2"), put("a", "1")},
		{gone("a"), put("a", "1")},
		{put("z", "2"), gone("z")},
		{put("z", ""), gone("z")},
		{put("e", "1"), put("e", "")},
		{gone("e"), put("e", "")},
		{gone("a"), gone("a"), put("a", "3"), gone("a"), put("a", "1"), put("a", "1")},
		{gone("a"), put("z", "1"), put("a", "1"), gone("z")},
	} {
		d, s := opened(t, small, rowsOf("a", "1", "e", ""))
		before := countsOf(d)
		x := txn.Begin(s)
		do(t, x, steps...)
		checkOps(t, x)
		if x.Mark() != len(steps) || x.Size() != s.Size() {
			t.Errorf("%v: Mark %d, Size %d", steps, x.Mark(), x.Size())
		}
		checkRange(t, x, "", "\xff", row("a", "1"), row("e", ""))
		checkError(t, "Commit", x.Commit(), nil)
		if countsOf(d) != before {
			t.Errorf("%v: a commit of nothing has written", steps)
		}
		checkStored(t, s, rowsOf("a", "1", "e", ""))
	}
}

// TestEmptyValues asks that a row with the empty value is a row.
func TestEmptyValues(t *testing.T) {
	_, s := opened(t, small, rowsOf("a", "1", "e", ""))
	x := txn.Begin(s)
	do(t, x, put("a", ""), gone("e"), put("z", ""))
	checkOps(t, x, put("a", ""), gone("e"), put("z", ""))
	checkRange(t, x, "", "\xff", row("a", ""), row("z", ""))
	checkGet(t, x, "a", "", true)
	checkError(t, "Commit", x.Commit(), nil)
	checkStored(t, s, rowsOf("a", "", "z", ""))
}

// TestBack asks for each mark that may be, and those beside them.
func TestBack(t *testing.T) {
	_, s := opened(t, small, rowsOf("a", "1", "b", "2"))
	x := txn.Begin(s)
	checkError(t, "Back(-1)", x.Back(-1), api.ErrRange)
	checkError(t, "Back(1)", x.Back(1), api.ErrRange)
	do(t, x, put("a", "5"), gone("a"), put("a", "6"), gone("z"))
	checkError(t, "Back(-1)", x.Back(-1), api.ErrRange)
	checkError(t, "Back(5)", x.Back(5), api.ErrRange)
	checkError(t, "Back(MinInt)", x.Back(-1<<63), api.ErrRange)
	checkError(t, "Back(MaxInt)", x.Back(1<<63-1), api.ErrRange)
	checkOps(t, x, put("a", "6"))
	back(t, x, 4)
	checkOps(t, x, put("a", "6"))
	back(t, x, 2)
	checkOps(t, x, gone("a"))
	checkGet(t, x, "a", "", false)
	checkError(t, "Back(3)", x.Back(3), api.ErrRange)
	do(t, x, gone("b"))
	if x.Mark() != 3 {
		t.Errorf("Mark() = %d", x.Mark())
	}
	back(t, x, 1)
	checkOps(t, x, put("a", "5"))
	back(t, x, 0)
	back(t, x, 0)
	checkOps(t, x)
	checkGet(t, x, "a", "1", true)
	checkError(t, "Back(1)", x.Back(1), api.ErrRange)
}

// TestSize asks for the length of the snapshot, where the number of rows and of bytes gets another byte too.
func TestSize(t *testing.T) {
	_, s := opened(t, small, rowsOf("a", "1", "b", "2"))
	x := txn.Begin(s)
	for _, want := range []struct {
		op   api.Op
		size int
	}{
		{put("a", "1"), 9}, {gone("b"), 5}, {put("c", ""), 8}, {put("c", strings.Repeat("x", 127)), 135}, {put("c", strings.Repeat("x", 128)), 137},
		{gone("a"), 133}, {gone("c"), 1}, {put("", ""), 3},
	} {
		do(t, x, want.op)
		if x.Size() != want.size || x.Size() != s.After(x.Ops()) {
			t.Errorf("Size behind %.20v: %d, want %d", want.op, x.Size(), want.size)
		}
	}
	if s.Size() != 9 {
		t.Errorf("the store's Size: %d", s.Size())
	}
}

// TestDrop asks that nothing is written, however often it is called.
func TestDrop(t *testing.T) {
	d, s := opened(t, small, rowsOf("a", "1"))
	before := countsOf(d)
	x := txn.Begin(s)
	do(t, x, put("b", "2"), gone("a"))
	x.Drop()
	x.Drop()
	checkClosed(t, x)
	if countsOf(d) != before {
		t.Error("a Drop has written")
	}
	checkStored(t, s, rowsOf("a", "1"))
	checkStored(t, reopened(t, d), rowsOf("a", "1"))
}

// TestCommit asks for one commit of the store: one flush, and just the bytes that the store writes for the Ops.
func TestCommit(t *testing.T) {
	rows := rowsOf("a", "1", "b", "2", "c", "3")
	d, s := opened(t, small, rows)
	twin, other := opened(t, small, rows)
	x := txn.Begin(s)
	do(t, x, put("d", "4"), put("b", "5"), gone("a"), put("c", "3"), gone("z"), put("y", ""), gone("y"))
	before := countsOf(d)
	checkError(t, "Commit", x.Commit(), nil)
	checkClosed(t, x)
	checkError(t, "the store's Commit", other.Commit([]api.Op{gone("a"), put("b", "5"), put("d", "4")}), nil)
	if got := countsOf(d); got.writes != before.writes+1 || got.flushes != before.flushes+1 || d.Pending() != 0 {
		t.Errorf("%v behind %v, %d under way", got, before, d.Pending())
	}
	if d.Image() != twin.Image() {
		t.Error("another image than the store's own commit leaves")
	}
	want := rowsOf("b", "5", "c", "3", "d", "4")
	checkStored(t, s, want)
	checkStored(t, reopened(t, d), want)
}

// TestCommitRefused asks for each refusal of the store: the transaction has ended, and the rows are as before.
func TestCommitRefused(t *testing.T) {
	for _, c := range []struct {
		bytes int
		want  error
	}{{4660, nil}, {4800, api.ErrFull}, {5200, api.ErrLarge}, {100000, api.ErrLarge}} {
		d, s := opened(t, small, rowsOf("a", "1"))
		before := countsOf(d)
		x := txn.Begin(s)
		big := strings.Repeat("x", c.bytes)
		do(t, x, put("big", big))
		checkGet(t, x, "big", big, true)
		checkError(t, "Commit", x.Commit(), c.want)
		checkClosed(t, x)
		if c.want == nil {
			checkStored(t, s, rowsOf("a", "1", "big", big))
			continue
		}
		if countsOf(d) != before {
			t.Errorf("%d bytes: a refused Commit has written", c.bytes)
		}
		checkStored(t, s, rowsOf("a", "1"))
		y := txn.Begin(s)
		do(t, y, put("b", "2"))
		checkError(t, "Commit behind a refused one", y.Commit(), nil)
		checkStored(t, s, rowsOf("a", "1", "b", "2"))
	}
}

// TestDownStore asks that a transaction over a store that is down reads and steps as ever, and that just what has to be written answers ErrDown.
func TestDownStore(t *testing.T) {
	for _, crashed := range []bool{false, true} {
		d, s := opened(t, small, rowsOf("a", "1"))
		early := txn.Begin(s)
		do(t, early, put("b", "2"))
		d.Arm(0)
		checkError(t, "Commit at which the power goes", early.Commit(), api.ErrDown)
		checkClosed(t, early)
		if crashed {
			d.Crash(api.Fate{Torn: -1})
		}
		x := txn.Begin(s)
		do(t, x, put("c", "3"), gone("a"))
		checkRange(t, x, "", "\xff", row("c", "3"))
		if x.Size() != 5 {
			t.Errorf("Size() = %d", x.Size())
		}
		back(t, x, 1)
		checkOps(t, x, put("c", "3"))
		checkError(t, "Commit to a store that is down", x.Commit(), api.ErrDown)
		checkClosed(t, x)
		y := txn.Begin(s)
		do(t, y, put("a", "1"), gone("c"))
		checkError(t, "Commit of nothing to a store that is down", y.Commit(), nil)
		checkClosed(t, y)
	}
}

// TestRangeTellsItsMoment asks for rule 9: the rows of the call, whatever comes later, and at any number of goings.
func TestRangeTellsItsMoment(t *testing.T) {
	_, s := opened(t, small, rowsOf("a", "1", "b", "2", "d", "4"))
	x := txn.Begin(s)
	first := x.Range("", "\xff")
	do(t, x, put("c", "3"), gone("b"), put("d", "5"))
	second, inner := x.Range("", "\xff"), x.Range("b", "d")
	checkAll := func(when string) {
		t.Helper()
		for range 2 {
			for _, want := range []struct {
				rows iter.Seq2[string, string]
				want []api.Row
			}{
				{first, []api.Row{row("a", "1"), row("b", "2"), row("d", "4")}},
				{second, []api.Row{row("a", "1"), row("c", "3"), row("d", "5")}},
				{inner, []api.Row{row("c", "3")}},
			} {
				if got := told(want.rows); !slices.Equal(got, want.want) {
					t.Errorf("%s: %q, want %q", when, got, want.want)
				}
			}
		}
	}
	checkAll("at once")
	do(t, x, gone("a"), gone("c"), put("cc", "1"), gone("d"), put("", "0"))
	checkAll("behind more steps")
	back(t, x, 1)
	checkAll("behind Back")
	checkError(t, "Compact", s.Compact(), nil)
	checkAll("behind Compact")
	checkError(t, "Commit", x.Commit(), nil)
	checkAll("behind Commit")
	y := txn.Begin(s)
	do(t, y, gone("a"), put("b", "7"))
	checkError(t, "Commit of another one", y.Commit(), nil)
	checkAll("behind another one's Commit")
}

// TestRangeWhileStepping asks that what is done to the transaction from within a loop isn't told by that loop.
func TestRangeWhileStepping(t *testing.T) {
	_, s := opened(t, small, rowsOf("a", "1", "c", "3", "e", "5"))
	x := txn.Begin(s)
	do(t, x, put("b", "2"), gone("c"), put("d", "4"))
	var keys string
	for key, value := range x.Range("", "\xff") {
		keys += key + value
		do(t, x, put(key+key, value), gone("e"), gone("d"), put("c", "6"))
		if key == "b" {
			back(t, x, 0)
		}
	}
	if keys != "a1b2d4e5" {
		t.Errorf("told: %q", keys)
	}
	for range x.Range("", "\xff") {
		x.Drop()
	}
	checkClosed(t, x)
}

// TestRangeStopsEarly asks for a stop behind each row, where rows of the store and own ones stand in any order.
func TestRangeStopsEarly(t *testing.T) {
	_, s := opened(t, small, rowsOf("b", "2", "c", "3", "e", "5", "g", "7"))
	x := txn.Begin(s)
	do(t, x, put("a", "1"), put("c", "9"), put("d", "4"), gone("e"), put("h", "8"), put("i", "9"))
	want := []api.Row{row("a", "1"), row("b", "2"), row("c", "9"), row("d", "4"), row("g", "7"), row("h", "8"), row("i", "9")}
	rows := x.Range("", "\xff")
	for stop := range want {
		var got []api.Row
		for key, value := range rows {
			got = append(got, row(key, value))
			if len(got) > stop {
				break
			}
		}
		if !slices.Equal(got, want[:stop+1]) {
			t.Errorf("stopped behind %d: %q", stop+1, got)
		}
	}
	if got := told(rows); !slices.Equal(got, want) {
		t.Errorf("gone over once more: %q", got)
	}
}

// TestOpsAreNew asks for rule 5: lists of answers are new memory, spare room included.
func TestOpsAreNew(t *testing.T) {
	_, s := opened(t, small, rowsOf("a", "1"))
	x := txn.Begin(s)
	do(t, x, put("b", "2"), gone("a"), put("c", "3"))
	spoil := func(ops []api.Op) {
		for i := range ops[:cap(ops)] {
			ops[:cap(ops)][i] = put("spoilt", "spoilt")
		}
	}
	want := []api.Op{gone("a"), put("b", "2"), put("c", "3")}
	kept := x.Ops()
	spoil(x.Ops())
	spoil(x.Ops())
	if !slices.Equal(kept, want) {
		t.Errorf("an earlier answer is now %v", kept)
	}
	checkOps(t, x, want...)
	checkError(t, "Commit", x.Commit(), nil)
	spoil(kept)
	checkStored(t, s, rowsOf("b", "2", "c", "3"))
}

// TestTwoAtOnce asks that transactions over one store don't see each other.
func TestTwoAtOnce(t *testing.T) {
	_, s := opened(t, small, rowsOf("a", "1"))
	x, y := txn.Begin(s), txn.Begin(s)
	do(t, x, put("b", "2"), gone("a"))
	checkRange(t, y, "", "\xff", row("a", "1"))
	do(t, y, put("a", "3"))
	checkRange(t, x, "", "\xff", row("b", "2"))
	x.Drop()
	checkRange(t, y, "", "\xff", row("a", "3"))
	checkError(t, "Compact", s.Compact(), nil)
	do(t, y, put("c", "4"))
	back(t, y, 1)
	checkOps(t, y, put("a", "3"))
	checkError(t, "Commit", y.Commit(), nil)
	checkStored(t, s, rowsOf("a", "3"))
}
