package store_test

import (
	"remit/api"
	"remit/disk"
	"remit/store"
	"slices"
	"strconv"
	"strings"
	"testing"
)

// checkCommit asks for the error of a refused Commit, behind which the store and the disk must be as they were.
func checkCommit(t *testing.T, s *store.Store, d *disk.Disk, want error, ops ...api.Op) {
	t.Helper()
	before, rows, size, version := stillOf(d), s.Rows(), s.Size(), s.Version()
	if err := s.Commit(ops); err != want {
		t.Errorf("Commit of %d ops: %v, want %v", len(ops), err, want)
	}
	if stillOf(d) != before {
		t.Error("a refused Commit has changed the disk")
	}
	if !slices.Equal(s.Rows(), rows) || s.Size() != size || s.Version() != version {
		t.Error("a refused Commit has changed the store")
	}
}

// checkCompact asks for the error of a refused Compact.
func checkCompact(t *testing.T, s *store.Store, d *disk.Disk, want error) {
	t.Helper()
	before, version := stillOf(d), s.Version()
	if err := s.Compact(); err != want {
		t.Errorf("Compact: %v, want %v", err, want)
	}
	if stillOf(d) != before || s.Version() != version {
		t.Error("a refused Compact has changed something")
	}
}

// TestCommitLies asks for each byte that commits leave, and for their writes and flushes.
func TestCommitLies(t *testing.T) {
	m := mediumOf(t, small).rows(1, noRows()).rows(2, noRows())
	d := formatted(t, small)
	s := opened(t, d)
	rows, used := noRows(), 0
	for _, ops := range [][]api.Op{
		{put("a", "1")},
		{put("a", "1")},
		{gone("nobody's")},
		{put("b", "2"), put("a", "3"), put("b", "4"), gone("c")},
		{{Delete: true, Key: "a", Value: "no use"}, put("", "")},
		{put("x", "y"), gone("x")},
		{put("k", strings.Repeat("v", 222))},
		{put("k", strings.Repeat("v", 223))},
		{put("k", strings.Repeat("v", 700)), put("l", "\xff\x00")},
	} {
		writes, flushes := d.Counts()
		commit(t, s, ops...)
		record := recordOf(ops...)
		m.log(2, used, record)
		if d.Image() != m.image() || d.Pending() != 0 {
			t.Fatalf("Commit of %v leaves another image", ops)
		}
		if w, f := d.Counts(); w-writes != len(payloads(record)) || f-flushes != 1 {
			t.Errorf("Commit of %v: %d writes and %d flushes", ops, w-writes, f-flushes)
		}
		used += len(payloads(record))
		rows = applied(rows, ops...)
		checkStore(t, s, small, 2, rows)
	}
	checkStore(t, opened(t, d), small, 3, rows)
}

// TestCommitOfNothing asks that nothing is written for a batch without an op.
func TestCommitOfNothing(t *testing.T) {
	d := formatted(t, small, put("a", "1"))
	s := opened(t, d)
	checkCommit(t, s, d, nil)
	if err := s.Commit([]api.Op{}); err != nil {
		t.Error(err)
	}
	d.Arm(0)
	checkCommit(t, s, d, nil)
	if err := s.Commit([]api.Op{gone("b")}); err != api.ErrDown {
		t.Errorf("a batch that changes nothing isn't written: %v", err)
	}
	checkCommit(t, s, d, api.ErrDown)
}

// TestCommitFolds asks what a commit does for which the log has no room, and that it comes to that at the last moment alone.
func TestCommitFolds(t *testing.T) {
	m := mediumOf(t, small).rows(1, noRows()).rows(2, noRows())
	d := formatted(t, small)
	s := opened(t, d)
	rows := noRows()
	for i := range 22 {
		op := put("k"+strconv.Itoa(i), "v")
		commit(t, s, op)
		rows = applied(rows, op)
		m.log(2, i, recordOf(op))
	}
	checkStore(t, s, small, 2, rows)
	if d.Image() != m.image() {
		t.Fatal("22 commits leave another image")
	}
	writes, flushes := d.Counts()
	op := put("l", strings.Repeat("w", 300))
	commit(t, s, op)
	// The snapshot is of the rows ahead of the batch, and the log begins anew.
	m.rows(3, rows).log(3, 0, recordOf(op))
	rows = applied(rows, op)
	checkStore(t, s, small, 3, rows)
	if w, f := d.Counts(); d.Image() != m.image() || w-writes != 1+1+2 || f-flushes != 3 {
		t.Fatalf("the commit that folds: %d writes and %d flushes, or another image", w-writes, f-flushes)
	}
	// 20 sectors are left: a record of 21 doesn't fit, one of 20 does.
	for _, x := range []struct{ bytes, version int }{{229 + 233*19 + 1, 4}, {229 + 233*19, 5}, {1, 5}, {229, 5}, {1, 6}} {
		commit(t, s, recordOfSize(x.bytes))
		checkStore(t, s, small, x.version, rows)
	}
	checkStore(t, opened(t, d), small, 7, rows)
}

// recordOfSize is a delete of nobody's key whose record has so many bytes, or a few more where that is too little.
func recordOfSize(bytes int) api.Op {
	for size := max(bytes-3, 0); ; size-- {
		op := gone(strings.Repeat("z", max(size, 1)))
		if len(recordOf(op)) <= max(bytes, 4) {
			return op
		}
	}
}

// TestCommitRefused asks for each refusal, at its edge, and which one comes first.
func TestCommitRefused(t *testing.T) {
	d := formatted(t, small, put("a", "1"))
	s := opened(t, d)
	largest, larger := gone(strings.Repeat("z", smallLargest-4)), gone(strings.Repeat("z", smallLargest-3))
	checkCommit(t, s, d, api.ErrLarge, larger)
	checkCommit(t, s, d, api.ErrLarge, put("k", strings.Repeat("v", smallLargest)))
	checkCommit(t, s, d, api.ErrLarge, gone(largest.Key), put("a", ""))
	commit(t, s, largest)
	checkStore(t, s, small, 2, rowsOf("a", "1"))
	// What is said of a key ahead of its last word isn't written, and so has no length.
	commit(t, s, put("a", strings.Repeat("v", smallLargest)), put("a", "2"))
	checkStore(t, s, small, 3, rowsOf("a", "2"))

	fills := strings.Repeat("v", smallRoom-9)
	full := []api.Op{put("k", fills+"v")}
	checkCommit(t, s, d, api.ErrFull, full...)
	if s.After(full) != smallRoom+1 {
		t.Errorf("After() = %d, want %d", s.After(full), smallRoom+1)
	}
	checkCommit(t, s, d, api.ErrFull, put("k", fills), put("l", ""))
	d.Arm(0)
	checkCommit(t, s, d, api.ErrFull, full...)
	checkCommit(t, s, d, api.ErrLarge, larger)
	d.Arm(-1)
	commit(t, s, put("k", fills))
	checkStore(t, s, small, 3, rowsOf("a", "2", "k", fills))
	checkCommit(t, s, d, api.ErrFull, put("a", "12"))
	checkCommit(t, s, d, api.ErrFull, put("", ""))
	// A full store may change, as long as it doesn't grow; a batch that makes room has it.
	commit(t, s, put("a", "3"))
	commit(t, s, gone("a"), put("b", "4"))
	checkCommit(t, s, d, api.ErrFull, put("k", ""), put("a", fills))
	commit(t, s, put("k", ""), put("a", fills), gone("b"))
	checkStore(t, s, small, 5, rowsOf("k", "", "a", fills))
}

// worn is a store of the last version, with these rows.
func worn(t *testing.T, rows map[string]string) (*store.Store, *disk.Disk) {
	t.Helper()
	d := mediumOf(t, small).rows(1<<40-1, rows).disk()
	s := opened(t, d)
	checkStore(t, s, small, 1<<40, rows)
	return s, d
}

// TestWorn asks what a store of the last version does: it goes on until its log is full.
func TestWorn(t *testing.T) {
	rows := rowsOf("a", "1")
	s, d := worn(t, rows)
	checkCompact(t, s, d, api.ErrWorn)
	commit(t, s, put("b", strings.Repeat("v", 229+233*17)))
	rows = applied(rows, put("b", strings.Repeat("v", 229+233*17)))
	checkStore(t, s, small, 1<<40, rows)
	// Three sectors are left.
	four := gone(strings.Repeat("z", 229+233*2))
	checkCommit(t, s, d, api.ErrWorn, four)
	checkCommit(t, s, d, api.ErrFull, put("c", strings.Repeat("v", 1000)))
	checkCommit(t, s, d, api.ErrLarge, put("b", strings.Repeat("v", smallLargest)))
	checkCommit(t, s, d, nil)
	d.Arm(0)
	checkCommit(t, s, d, api.ErrWorn, four)
	d.Arm(-1)
	commit(t, s, gone(four.Key[4:]))
	checkStore(t, s, small, 1<<40, rows)
	checkCommit(t, s, d, api.ErrWorn, put("a", "3"))
	checkCommit(t, s, d, api.ErrWorn, gone("nobody's"))
	checkStore(t, s, small, 1<<40, rows)
	checkOpen(t, d, api.ErrWorn)
	d.Crash(api.Fate{Torn: -1})
	checkCommit(t, s, d, api.ErrDown, put("a", "3"))
	checkCompact(t, s, d, api.ErrDown)
}

// TestCompact asks for each byte that a Compact leaves.
func TestCompact(t *testing.T) {
	rows := rowsOf("a", "1", "k", strings.Repeat("v", 300))
	m := mediumOf(t, small).rows(4, rows)
	d := m.disk()
	s := opened(t, d)
	m.rows(5, rows)
	for version := 6; version < 10; version++ {
		if version == 8 {
			commit(t, s, gone("k"))
			m.log(7, 0, recordOf(gone("k")))
			rows = applied(rows, gone("k"))
		}
		writes, flushes := d.Counts()
		if err := s.Compact(); err != nil {
			t.Fatal(err)
		}
		m.rows(version, rows)
		checkStore(t, s, small, version, rows)
		if w, f := d.Counts(); d.Image() != m.image() || w-writes != len(pieces(snapshotOf(rows)))+1 || f-flushes != 2 {
			t.Errorf("Compact to version %d: %d writes and %d flushes, or another image", version, w-writes, f-flushes)
		}
	}
	// The log is empty behind it.
	commit(t, s, recordOfSize(smallLargest))
	checkStore(t, s, small, 9, rows)
	checkStore(t, opened(t, d), small, 10, rows)
}

// checkDown asks that a store tells what it told, and that its Commit and Compact answer ErrDown, whatever else stands against them.
func checkDown(t *testing.T, s *store.Store, d *disk.Disk, n, version int, rows map[string]string) {
	t.Helper()
	checkStore(t, s, n, version, rows)
	checkCommit(t, s, d, api.ErrDown)
	checkCommit(t, s, d, api.ErrDown, put("a", "9"))
	checkCommit(t, s, d, api.ErrDown, put("a", strings.Repeat("v", roomOf(n))))
	checkCommit(t, s, d, api.ErrDown, put("a", strings.Repeat("v", largestOf(n))))
	checkCompact(t, s, d, api.ErrDown)
	checkStore(t, s, n, version, rows)
	if more := s.After([]api.Op{put("a", "9"), put("new", "")}); more != len(snapshotOf(applied(rows, put("a", "9"), put("new", "")))) {
		t.Errorf("After() = %d of a store that is down", more)
	}
}

// TestDownByCall asks for ErrDown at each write and flush of Commit and Compact, and for what the store is from then on.
func TestDownByCall(t *testing.T) {
	rows := rowsOf("a", "1", "k", strings.Repeat("v", 300))
	for name, x := range map[string]struct {
		fill int
		call func(s *store.Store) error
		arms []int
	}{
		"a commit":            {0, func(s *store.Store) error { return s.Commit([]api.Op{put("b", strings.Repeat("w", 500))}) }, []int{1, 2, 3, 3}},
		"a commit that folds": {22, func(s *store.Store) error { return s.Commit([]api.Op{put("b", strings.Repeat("w", 300))}) }, []int{1, 2, 2, 1, 1, 1, 2, 2}},
		"a compact":           {1, func(s *store.Store) error { return s.Compact() }, []int{1, 2, 2, 1, 1}},
	} {
		for arm, pending := range x.arms {
			d := mediumOf(t, small).rows(3, rows).disk()
			s := opened(t, d)
			for range x.fill {
				commit(t, s, put("a", "1"))
			}
			each := s.Range("", "b")
			d.Arm(arm)
			if err := x.call(s); err != api.ErrDown || !d.Off() || d.Pending() != pending {
				t.Errorf("%s armed %d: %v, off: %v, %d under way, want %d", name, arm, err, d.Off(), d.Pending(), pending)
			}
			checkDown(t, s, d, small, 4, rows)
			d.Crash(api.Fate{Kept: []bool{true, true, true}, Torn: -1})
			checkDown(t, s, d, small, 4, rows)
			opened(t, d)
			if got := told(t, each); !slices.Equal(got, listOf(rowsOf("a", "1"))) {
				t.Errorf("%s armed %d: an iterator of ahead tells %v", name, arm, got)
			}
		}
		d := mediumOf(t, small).rows(3, rows).disk()
		s := opened(t, d)
		for range x.fill {
			commit(t, s, put("a", "1"))
		}
		d.Arm(len(x.arms))
		if err := x.call(s); err != nil {
			t.Errorf("%s armed behind all: %v", name, err)
		}
	}
}

// TestDownByDisk asks that a store is down behind a crash, and while the power is off, without a call of its own.
func TestDownByDisk(t *testing.T) {
	rows := rowsOf("a", "1")
	d := formatted(t, small, put("a", "1"))
	s := opened(t, d)
	commit(t, s, put("b", "2"))
	rows = applied(rows, put("b", "2"))
	d.Crash(api.Fate{Torn: -1})
	checkDown(t, s, d, small, 2, rows)

	d = formatted(t, small, put("a", "1"))
	d.Crash(api.Fate{Torn: -1})
	d.Crash(api.Fate{Torn: -1})
	s = opened(t, d)
	commit(t, s, put("b", "2"))
	d.Arm(0)
	d.Flush()
	checkDown(t, s, d, small, 2, rows)
	d.Crash(api.Fate{Torn: -1})
	checkDown(t, s, d, small, 2, rows)
	s = opened(t, d)
	commit(t, s, put("c", "3"))
	checkStore(t, s, small, 3, applied(rows, put("c", "3")))
}

// TestSizes asks for Size and After about the numbers whose varints have another length.
func TestSizes(t *testing.T) {
	const n = 400
	rows := noRows()
	s := opened(t, formatted(t, n))
	check := func(ops ...api.Op) {
		t.Helper()
		want := len(snapshotOf(applied(rows, ops...)))
		if got := s.After(ops); got != want {
			t.Fatalf("After() = %d, want %d", got, want)
		}
		checkSame(t, s, n, rows)
		commit(t, s, ops...)
		rows = applied(rows, ops...)
		checkSame(t, s, n, rows)
	}
	for _, size := range []int{0, 1, 126, 127, 128, 129, 16382, 16383, 16384, 16385, 127, 16384, 128, 0, 20000} {
		check(put("k", strings.Repeat("v", size)))
		check(put(strings.Repeat("k", size%10000), ""))
		check(put("k", ""), put("k", strings.Repeat("w", size)), gone("nobody's"), gone("l"), put("l", "1"), gone(strings.Repeat("k", size%10000)))
	}
	check(gone("k"), gone("l"))
	for i := range 130 {
		check(put(strconv.Itoa(i), "v"))
	}
	for i := range 130 {
		check(put("again", ""), gone("again"), gone(strconv.Itoa(i)))
	}
	if len(rows) > 3 {
		t.Errorf("%d rows are left", len(rows))
	}
	var many []api.Op
	for i := range 300 {
		many = append(many, put(strconv.Itoa(i%128), strings.Repeat("v", i)))
	}
	check(many...)
	checkStore(t, s, n, s.Version(), rows)
}

// checkSame asks for the size and the rows alone.
func checkSame(t *testing.T, s *store.Store, n int, rows map[string]string) {
	t.Helper()
	size := len(snapshotOf(rows))
	if s.Size() != size || s.After(nil) != size || !slices.Equal(s.Rows(), listOf(rows)) {
		t.Fatalf("Size() = %d, After() = %d, want %d; or the rows are others", s.Size(), s.After(nil), size)
	}
}

// TestAfterOfAny asks for After of what no Commit takes: it is done to no row.
func TestAfterOfAny(t *testing.T) {
	d := formatted(t, small, put("a", "1"), put("b", "2"))
	s := opened(t, d)
	before := stillOf(d)
	for _, ops := range [][]api.Op{
		{put("k", strings.Repeat("v", 100000))},
		{put("a", strings.Repeat("v", smallRoom)), put("b", strings.Repeat("v", smallRoom))},
		{gone("a"), gone("a"), put("a", "3"), put("a", "44"), gone("b"), put("c", "5"), gone("c")},
		{{Delete: true, Key: "a", Value: "no use"}},
		{gone("a"), gone("b")},
	} {
		want := len(snapshotOf(applied(rowsOf("a", "1", "b", "2"), ops...)))
		if got := s.After(ops); got != want {
			t.Errorf("After() = %d, want %d", got, want)
		}
		checkStore(t, s, small, 2, rowsOf("a", "1", "b", "2"))
	}
	if stillOf(d) != before {
		t.Error("After has changed the disk")
	}
}

// TestRange asks for Range at its edges, and that it tells the rows of its call.
func TestRange(t *testing.T) {
	s := opened(t, formatted(t, small, put("", "0"), put("a", "1"), put("b", "2"), put("ba", "3"), put("c", "")))
	for _, x := range []struct{ lo, hi, want string }{
		{"", "", ""}, {"", "a", "0"}, {"a", "b", "1"}, {"a", "b\x00", "12"}, {"b", "c", "23"}, {"b", "a", ""}, {"bb", "c", ""}, {"", "d", "0123"}, {"c", "d", ""}, {"d", "e", ""},
	} {
		got := ""
		for _, value := range s.Range(x.lo, x.hi) {
			got += value
		}
		if got != x.want {
			t.Errorf("Range(%q, %q) tells %q, want %q", x.lo, x.hi, got, x.want)
		}
	}
	each, want := s.Range("a", "c"), listOf(rowsOf("a", "1", "b", "2", "ba", "3"))
	for key, value := range each {
		if key != "a" || value != "1" {
			t.Errorf("first %q, %q", key, value)
		}
		commit(t, s, gone("b"), put("bb", "new"))
		break
	}
	if err := s.Compact(); err != nil {
		t.Fatal(err)
	}
	if got := told(t, each); !slices.Equal(got, want) {
		t.Errorf("an iterator of ahead tells %v, want %v", got, want)
	}
	if got := told(t, s.Range("a", "c")); !slices.Equal(got, listOf(rowsOf("a", "1", "ba", "3", "bb", "new"))) {
		t.Errorf("a new iterator tells %v", got)
	}
}

// TestHandedIn asks that ops stay as they are, spare room included, and that what is written into them later isn't seen.
func TestHandedIn(t *testing.T) {
	all := []api.Op{put("b", "2"), put("a", "1"), put("b", "3"), {Delete: true, Key: "c", Value: "kept"}, put("spare", "room")}
	mine := slices.Clone(all)
	d := made(t, small)
	if err := store.Format(d, mine[:4]); err != nil {
		t.Fatal(err)
	}
	s := opened(t, d)
	commit(t, s, mine[:4]...)
	s.After(mine[:4])
	if !slices.Equal(mine, all) {
		t.Errorf("the ops handed in are %v", mine)
	}
	for i := range mine {
		mine[i] = gone("a")
	}
	checkStore(t, s, small, 2, rowsOf("a", "1", "b", "3"))
	checkStore(t, opened(t, d), small, 3, rowsOf("a", "1", "b", "3"))
}

// TestRowsAreNew asks that lists that were answered are the asker's own.
func TestRowsAreNew(t *testing.T) {
	s := opened(t, formatted(t, small, put("a", "1"), put("b", "2")))
	first, second := s.Rows(), s.Rows()
	for i := range first {
		first[i] = api.Row{Key: "x", Value: "y"}
	}
	_ = append(first[:1], api.Row{Key: "z"})
	if !slices.Equal(second, listOf(rowsOf("a", "1", "b", "2"))) {
		t.Errorf("another answer is %v", second)
	}
	checkStore(t, s, small, 2, rowsOf("a", "1", "b", "2"))
	if rows := opened(t, formatted(t, small)).Rows(); len(rows) != 0 {
		t.Errorf("no rows: %v", rows)
	}
}

// TestTwoDisks asks that stores know nothing of each other.
func TestTwoDisks(t *testing.T) {
	a, b := formatted(t, 64, put("a", "1")), formatted(t, 400, put("b", "2"))
	s, u := opened(t, a), opened(t, b)
	commit(t, s, put("c", "3"))
	if err := u.Compact(); err != nil {
		t.Fatal(err)
	}
	a.Crash(api.Fate{Torn: -1})
	commit(t, u, put("d", "4"))
	checkDown(t, s, a, 64, 2, rowsOf("a", "1", "c", "3"))
	checkStore(t, u, 400, 3, rowsOf("b", "2", "d", "4"))
}
