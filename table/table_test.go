package table_test

import (
	"iter"
	"math/rand/v2"
	"remit/api"
	"remit/table"
	"slices"
	"strings"
	"testing"
	"unsafe"
)

// list is the rows of these keys and values, which take turns.
func list(texts ...string) []api.Row {
	var out []api.Row
	for i := 0; i < len(texts); i += 2 {
		out = append(out, api.Row{Key: texts[i], Value: texts[i+1]})
	}
	return out
}

// told is what an iterator tells when it is gone over once.
func told(seq iter.Seq2[string, string]) []api.Row {
	var out []api.Row
	for key, value := range seq {
		out = append(out, api.Row{Key: key, Value: value})
	}
	return out
}

// turned is these rows the other way round.
func turned(rows []api.Row) []api.Row {
	out := slices.Clone(rows)
	slices.Reverse(out)
	return out
}

func checkTold(t *testing.T, what string, seq iter.Seq2[string, string], want []api.Row) {
	t.Helper()
	if got := told(seq); !slices.Equal(got, want) {
		t.Errorf("%s tells %q, want %q", what, got, want)
	}
}

func checkRows(t *testing.T, x *table.Table, want []api.Row) {
	t.Helper()
	if got := x.Rows(); !slices.Equal(got, want) {
		t.Errorf("Rows: %q, want %q", got, want)
	}
	checkTold(t, "From of the empty text", x.From(""), want)
	bytes := 0
	for _, row := range want {
		bytes += len(row.Key) + len(row.Value)
		checkGet(t, x, row.Key, row.Value, true)
	}
	if x.Len() != len(want) || x.Bytes() != bytes {
		t.Errorf("Len and Bytes: %d, %d, want %d, %d", x.Len(), x.Bytes(), len(want), bytes)
	}
}

func checkGet(t *testing.T, x *table.Table, key, want string, wantFound bool) {
	t.Helper()
	if got, found := x.Get(key); got != want || found != wantFound {
		t.Errorf("Get(%q): %q, %v, want %q, %v", key, got, found, want, wantFound)
	}
}

func checkPut(t *testing.T, x *table.Table, key, value string, want bool) {
	t.Helper()
	if got := x.Put(key, value); got != want {
		t.Errorf("Put(%q, %q): %v", key, value, got)
	}
}

func checkDelete(t *testing.T, x *table.Table, key string, want bool) {
	t.Helper()
	if got := x.Delete(key); got != want {
		t.Errorf("Delete(%q): %v", key, got)
	}
}

func TestExamples(t *testing.T) {
	x := table.Of(list("b", "1", "a", "2", "b", "3"))
	checkRows(t, x, list("a", "2", "b", "3"))
	if x.Len() != 2 || x.Bytes() != 4 {
		t.Errorf("Len and Bytes: %d, %d", x.Len(), x.Bytes())
	}
	checkGet(t, x, "c", "", false)
	checkPut(t, x, "b", "", true)
	checkPut(t, x, "", "x", false)
	checkRows(t, x, list("", "x", "a", "2", "b", ""))
	checkTold(t, "Range(a, b)", x.Range("a", "b"), list("a", "2"))
	checkTold(t, "Range(b, a)", x.Range("b", "a"), nil)
	checkTold(t, "Range(b, b)", x.Range("b", "b"), nil)
	checkTold(t, "From(b)", x.From("b"), list("b", ""))
	checkTold(t, "Back(, b)", x.Back("", "b"), list("a", "2", "", "x"))
	checkDelete(t, x, "a", true)
	checkDelete(t, x, "a", false)
	checkRows(t, x, list("", "x", "b", ""))
}

// checkEmpty asks a table without rows for all that it tells.
func checkEmpty(t *testing.T, x *table.Table) {
	t.Helper()
	checkRows(t, x, nil)
	for _, key := range []string{"", "\x00", "a", "\xff"} {
		checkGet(t, x, key, "", false)
		checkDelete(t, x, key, false)
		checkTold(t, "From", x.From(key), nil)
		checkTold(t, "Range", x.Range("", key), nil)
		checkTold(t, "Back", x.Back("", key), nil)
	}
}

func TestNoRows(t *testing.T) {
	emptied := table.Of(list("a", "1", "b", "2", "c", "3"))
	for _, key := range []string{"b", "a", "c"} {
		checkDelete(t, emptied, key, true)
	}
	for _, x := range []*table.Table{table.New(), table.Of(nil), table.Of([]api.Row{}), emptied, emptied.Clone(), table.New().Clone()} {
		checkEmpty(t, x)
		checkPut(t, x, "", "", false)
		checkRows(t, x, list("", ""))
		checkPut(t, x, "", "", true)
		checkDelete(t, x, "", true)
		checkEmpty(t, x)
	}
}

// TestKeysAreBytes asks for the order of Go's strings: byte by byte, whatever they say as UTF-8, a text ahead of those that begin with it.
func TestKeysAreBytes(t *testing.T) {
	rising := []string{"", "\x00", "\x00\x00", "\x00\x01", "\x01", "10", "9", "A", "Z", "a", "a\x00", "a\x00b", "aa", "b", "\x7f", "\x80", "\xc3", "é", "é\x00", "\xc3\xff", "\uffff", "😀", "\xff", "\xff\x00", "\xff\xff"}
	if !slices.IsSorted(rising) {
		t.Fatal("the keys don't rise")
	}
	rnd := rand.New(rand.NewPCG(1, 2))
	for range 20 {
		x := table.New()
		for _, i := range rnd.Perm(len(rising)) {
			checkPut(t, x, rising[i], "v", false)
		}
		var want []api.Row
		for _, key := range rising {
			want = append(want, api.Row{Key: key, Value: "v"})
		}
		checkRows(t, x, want)
		for i, lo := range rising {
			checkTold(t, "From", x.From(lo), want[i:])
			for k, hi := range rising {
				checkTold(t, "Range", x.Range(lo, hi), want[i:max(i, k)])
				checkTold(t, "Back", x.Back(lo, hi), turned(want[i:max(i, k)]))
			}
		}
	}
}

// TestBoundsBetweenKeys asks for bounds that are no row's key, below all, above all, and beside one.
func TestBoundsBetweenKeys(t *testing.T) {
	x := table.Of(list("b", "1", "d", "2", "f", "3"))
	for _, c := range []struct {
		lo, hi string
		want   []api.Row
	}{
		{"", "", nil}, {"", "a", nil}, {"a", "b", nil}, {"g", "z", nil}, {"bb", "d", nil}, {"e", "e", nil},
		{"z", "a", nil}, {"e", "c", nil}, {"f", "b", nil}, {"d\x00", "d", nil},
		{"", "b\x00", list("b", "1")}, {"a", "c", list("b", "1")}, {"b", "d", list("b", "1")},
		{"b\x00", "e", list("d", "2")}, {"c", "d\x00", list("d", "2")}, {"c", "f", list("d", "2")},
		{"a", "e", list("b", "1", "d", "2")}, {"c", "z", list("d", "2", "f", "3")}, {"f", "\xff", list("f", "3")},
		{"", "z", list("b", "1", "d", "2", "f", "3")}, {"b", "f\x00", list("b", "1", "d", "2", "f", "3")},
	} {
		checkTold(t, "Range", x.Range(c.lo, c.hi), c.want)
		checkTold(t, "Back", x.Back(c.lo, c.hi), turned(c.want))
	}
	checkTold(t, "From", x.From("a"), list("b", "1", "d", "2", "f", "3"))
	checkTold(t, "From", x.From("b\x00"), list("d", "2", "f", "3"))
	checkTold(t, "From", x.From("f"), list("f", "3"))
	checkTold(t, "From", x.From("f\x00"), nil)
}

func TestLongTexts(t *testing.T) {
	long := strings.Repeat("k", 1<<20)
	x := table.Of(list(long, "1", long+"\x00", "2", long[1:], long))
	checkRows(t, x, list(long[1:], long, long, "1", long+"\x00", "2"))
	checkTold(t, "Range", x.Range(long[1:]+"\x00", long+"\x00"), list(long, "1"))
	checkPut(t, x, long, long+long, true)
	checkDelete(t, x, long[1:], true)
	checkRows(t, x, list(long, long+long, long+"\x00", "2"))
}

// TestOfKeepsNothing asks whether rows that are handed in stay as they are, and are looked at in the call alone.
func TestOfKeepsNothing(t *testing.T) {
	room := list("b", "1", "a", "2", "b", "3", "spare", "4")
	rows := room[:3]
	x := table.Of(rows)
	checkPut(t, x, "c", "5", false)
	checkDelete(t, x, "a", true)
	if !slices.Equal(room, list("b", "1", "a", "2", "b", "3", "spare", "4")) {
		t.Errorf("the rows handed in are %q", room)
	}
	for i := range room {
		room[i] = api.Row{Key: "x", Value: "y"}
	}
	checkRows(t, x, list("b", "3", "c", "5"))
}

func TestRowsAreNewMemory(t *testing.T) {
	x := table.Of(list("a", "1", "b", "2", "c", "3"))
	x.Delete("c")
	first, second := x.Rows(), x.Rows()
	first = first[:cap(first)]
	for i := range first {
		first[i] = api.Row{Key: "x", Value: "y"}
	}
	if !slices.Equal(second, list("a", "1", "b", "2")) {
		t.Errorf("what is written into one answer stands in another one: %q", second)
	}
	checkRows(t, x, list("a", "1", "b", "2"))
}

// TestNoPieceIsKept asks whether a row holds texts of its own: pieces of those handed in would hold the whole ones in memory.
func TestNoPieceIsKept(t *testing.T) {
	whole := strings.Repeat("abcdefgh", 1000)
	x := table.Of([]api.Row{{Key: whole[:1], Value: whole[1:2]}})
	x.Put(whole[2:3], whole[3:4])
	x.Put(whole[:1], whole[4:5])
	from := uintptr(unsafe.Pointer(unsafe.StringData(whole)))
	for key, value := range x.From("") {
		for _, text := range []string{key, value} {
			at := uintptr(unsafe.Pointer(unsafe.StringData(text)))
			if at >= from && at < from+uintptr(len(whole)) {
				t.Errorf("%q is a piece of the text that was handed in", text)
			}
		}
	}
	checkRows(t, x, list("a", "e", "c", "d"))
}

// TestClonesGoTheirOwnWays asks for tables that come of each other, in both ways and over several steps.
func TestClonesGoTheirOwnWays(t *testing.T) {
	x := table.Of(list("a", "1", "b", "2", "c", "3"))
	y := x.Clone()
	z := y.Clone()
	before := map[string]iter.Seq2[string, string]{"x": x.From(""), "y": y.Range("a", "z"), "z": z.From("")}
	checkPut(t, x, "a", "x", true)
	checkPut(t, y, "a", "yy", true)
	checkDelete(t, x, "b", true)
	checkPut(t, y, "d", "y", false)
	checkDelete(t, z, "c", true)
	checkPut(t, z, "c", "zzz", false)
	checkRows(t, x, list("a", "x", "c", "3"))
	checkRows(t, y, list("a", "yy", "b", "2", "c", "3", "d", "y"))
	checkRows(t, z, list("a", "1", "b", "2", "c", "zzz"))
	for what, seq := range before {
		checkTold(t, what, seq, list("a", "1", "b", "2", "c", "3"))
	}
	w := x.Clone()
	checkDelete(t, x, "a", true)
	checkDelete(t, x, "c", true)
	checkRows(t, w, list("a", "x", "c", "3"))
	checkEmpty(t, x)
}

// TestStoppedAnywhere stops each kind of iterator behind each number of steps, and goes over it anew.
func TestStoppedAnywhere(t *testing.T) {
	rows := list("a", "1", "b", "2", "c", "3", "d", "4", "e", "5", "f", "6", "g", "7")
	x := table.Of(rows)
	for _, c := range []struct {
		seq  iter.Seq2[string, string]
		want []api.Row
	}{{x.Range("", "z"), rows}, {x.From(""), rows}, {x.Back("", "z"), turned(rows)}, {x.Range("b", "f"), rows[1:5]}, {x.From("c"), rows[2:]}, {x.Back("b", "f"), turned(rows[1:5])}} {
		for steps := 1; steps <= len(c.want); steps++ {
			var got []api.Row
			for key, value := range c.seq {
				got = append(got, api.Row{Key: key, Value: value})
				if len(got) == steps {
					break
				}
			}
			if !slices.Equal(got, c.want[:steps]) {
				t.Errorf("stopped behind %d: %q, want %q", steps, got, c.want[:steps])
			}
			checkTold(t, "an iterator that was stopped", c.seq, c.want)
		}
	}
}

// TestChangedByTheOneThatGoesOver changes the table at each step, in the rows that were told and in those that weren't yet.
func TestChangedByTheOneThatGoesOver(t *testing.T) {
	rows := list("a", "1", "b", "2", "c", "3", "d", "4")
	for _, back := range []bool{false, true} {
		x := table.Of(rows)
		seq, want := x.Range("", "z"), rows
		if back {
			seq, want = x.Back("", "z"), turned(rows)
		}
		var got []api.Row
		for key, value := range seq {
			got = append(got, api.Row{Key: key, Value: value})
			for _, row := range rows {
				x.Put(row.Key, "changed")
				x.Put(row.Key+"!", "between")
			}
			x.Delete(key)
			x.Delete("c")
			// Over the table as it is by now, in the midst of the other one.
			checkTold(t, "an iterator inside", x.Range(key, key+"\x00"), nil)
		}
		if !slices.Equal(got, want) {
			t.Errorf("told %q, want %q", got, want)
		}
		checkTold(t, "the iterator once more", seq, want)
	}
}

// TestTwoAtATime goes over two iterators of one table by turns, one of them made ahead of a change, and over one of them twice at a time.
func TestTwoAtATime(t *testing.T) {
	x := table.Of(list("a", "1", "b", "2", "c", "3"))
	old := x.From("")
	x.Delete("b")
	x.Put("d", "4")
	fresh := x.From("")
	nextOld, stopOld := iter.Pull2(old)
	defer stopOld()
	nextFresh, stopFresh := iter.Pull2(fresh)
	defer stopFresh()
	nextAgain, stopAgain := iter.Pull2(old)
	defer stopAgain()
	var got [3][]api.Row
	for range 4 {
		for i, next := range []func() (string, string, bool){nextOld, nextFresh, nextAgain} {
			if key, value, ok := next(); ok {
				got[i] = append(got[i], api.Row{Key: key, Value: value})
			}
		}
		x.Put("c", "other")
		x.Delete("d")
	}
	want := [3][]api.Row{list("a", "1", "b", "2", "c", "3"), list("a", "1", "c", "3", "d", "4"), list("a", "1", "b", "2", "c", "3")}
	for i := range got {
		if !slices.Equal(got[i], want[i]) {
			t.Errorf("iterator %d told %q, want %q", i, got[i], want[i])
		}
	}
}
