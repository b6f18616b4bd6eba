package batch_test

import (
	"encoding/binary"
	"fmt"
	"math"
	"remit/api"
	"remit/batch"
	"remit/table"
	"slices"
	"strings"
	"testing"
)

func put(key, value string) api.Op { return api.Op{Key: key, Value: value} }

func del(key string) api.Op { return api.Op{Delete: true, Key: key} }

// delWith is a delete with a Value, which no normal form has.
func delWith(key, value string) api.Op { return api.Op{Delete: true, Key: key, Value: value} }

func list(ops ...api.Op) []api.Op { return ops }

// shown is a batch as a failure tells it; of long texts the beginnings.
func shown(ops []api.Op) string {
	var out []string
	for _, op := range ops {
		word := "put"
		if op.Delete {
			word = "delete"
		}
		out = append(out, fmt.Sprintf("%s %.40q %.40q", word, op.Key, op.Value))
	}
	return "[" + strings.Join(out, ", ") + "]"
}

// of is a table of these keys and values, by turns.
func of(texts ...string) *table.Table {
	x := table.New()
	for i := 0; i < len(texts); i += 2 {
		x.Put(texts[i], texts[i+1])
	}
	return x
}

func checkNormal(t *testing.T, ops, want []api.Op) {
	t.Helper()
	if got := batch.Normal(ops); !slices.Equal(got, want) {
		t.Errorf("Normal(%s): %s, want %s", shown(ops), shown(got), shown(want))
	}
}

func checkEncode(t *testing.T, ops []api.Op, want string, wantErr error) {
	t.Helper()
	if got, err := batch.Encode(ops); got != want || err != wantErr {
		t.Errorf("Encode(%s): % x, %v, want % x, %v", shown(ops), got, err, want, wantErr)
	}
}

func checkDecode(t *testing.T, s string, want []api.Op, wantErr error) {
	t.Helper()
	if got, err := batch.Decode(s); !slices.Equal(got, want) || err != wantErr {
		t.Errorf("Decode(% x): %s, %v, want %s, %v", s, shown(got), err, shown(want), wantErr)
	}
}

func checkApply(t *testing.T, x *table.Table, ops []api.Op, want *table.Table) {
	t.Helper()
	before := x.Rows()
	batch.Apply(x, ops)
	if !slices.Equal(x.Rows(), want.Rows()) || x.Len() != want.Len() || x.Bytes() != want.Bytes() {
		t.Errorf("Apply of %s to %q: %q, want %q", shown(ops), before, x.Rows(), want.Rows())
	}
}

// checkBetween asks for the answer, and whether both tables stay as they are.
func checkBetween(t *testing.T, a, b *table.Table, want []api.Op) {
	t.Helper()
	ofA, ofB := a.Rows(), b.Rows()
	if got := batch.Between(a, b); !slices.Equal(got, want) {
		t.Errorf("Between %q and %q: %s, want %s", ofA, ofB, shown(got), shown(want))
	}
	if !slices.Equal(a.Rows(), ofA) || !slices.Equal(b.Rows(), ofB) {
		t.Errorf("Between %q and %q left %q and %q", ofA, ofB, a.Rows(), b.Rows())
	}
}

func TestExamples(t *testing.T) {
	normal := list(put("a", "2"), del("b"))
	checkNormal(t, list(put("b", "1"), put("a", "1"), del("b"), put("a", "2")), normal)
	checkEncode(t, normal, "\x02\x00\x01\x61\x01\x32\x01\x01\x62", nil)
	checkEncode(t, nil, "\x00", nil)
	checkEncode(t, list(put("b", ""), put("a", "")), "", api.ErrOrder)
	checkEncode(t, list(delWith("a", "x")), "", api.ErrForm)
	checkEncode(t, list(put("a", ""), put("a", ""), delWith("b", "x")), "", api.ErrOrder)
	checkDecode(t, "\x02\x00\x01\x61\x01\x32\x01\x01\x62", normal, nil)
	checkDecode(t, "\x00\x00", nil, api.ErrTail)
	checkDecode(t, "\x01", nil, api.ErrShort)
	checkDecode(t, "\x01\x02\x01\x61", nil, api.ErrForm)
	checkDecode(t, "\x02\x01\x01\x62\x01\x01\x61", nil, api.ErrOrder)
	checkDecode(t, "\x80\x00", nil, api.ErrVarint)
	checkBetween(t, of("a", "1", "b", "2"), of("b", "3", "c", "4"), list(del("a"), put("b", "3"), put("c", "4")))
}

func TestNormal(t *testing.T) {
	for _, c := range []struct{ ops, want []api.Op }{
		{nil, nil},
		{[]api.Op{}, nil},
		{list(put("", "")), list(put("", ""))},
		{list(delWith("", "x")), list(del(""))},
		{list(delWith("a", "x")), list(del("a"))},
		{list(put("a", "1"), put("a", "2")), list(put("a", "2"))},
		{list(put("a", "2"), put("a", "")), list(put("a", ""))},
		{list(put("a", "1"), delWith("a", "1")), list(del("a"))},
		{list(delWith("a", "1"), put("a", "1")), list(put("a", "1"))},
		{list(del("a"), del("a")), list(del("a"))},
		{list(put("a", "1"), del("a"), put("a", "1"), del("b"), put("b", "2"), delWith("b", "3")), list(put("a", "1"), del("b"))},
		{list(put("b", "1"), put("a", "1"), put("", "1"), put("c", "1")), list(put("", "1"), put("a", "1"), put("b", "1"), put("c", "1"))},
		{list(put("\xff", ""), put("é", ""), put("b", ""), put("aa", ""), put("a\x00", ""), put("a", ""), put("B", ""), put("\x00", ""), put("", "")),
			list(put("", ""), put("\x00", ""), put("B", ""), put("a", ""), put("a\x00", ""), put("aa", ""), put("b", ""), put("é", ""), put("\xff", ""))},
	} {
		checkNormal(t, c.ops, c.want)
	}
}

// TestNormalIsSorted asks for the order where there are so many keys that a map seldom tells them in it.
func TestNormalIsSorted(t *testing.T) {
	var ops, want []api.Op
	for i := range 1000 {
		key := string(binary.BigEndian.AppendUint16(nil, uint16(i)))
		want = append(want, put(key, "new"))
		ops = append(ops, put(key, "old"), put(key, "new"))
	}
	slices.Reverse(ops[500:])
	for i := 250; i < 1000; i++ {
		want[i].Value = "old"
	}
	for range 20 {
		if got := batch.Normal(ops); !slices.Equal(got, want) {
			t.Fatalf("Normal of 2000 ops: %s", shown(got))
		}
	}
}

// varint is that of a number.
func varint(x uint64) string { return string(binary.AppendUvarint(nil, x)) }

// TestForms asks for the bytes of batches, and for the way back.
func TestForms(t *testing.T) {
	k127, k128 := strings.Repeat("k", 127), strings.Repeat("k", 128)
	k16383, k16384, great := strings.Repeat("l", 16383), strings.Repeat("l", 16384), strings.Repeat("m", 1<<21)
	for _, c := range []struct {
		ops   []api.Op
		bytes string
	}{
		{nil, "\x00"},
		{list(put("", "")), "\x01\x00\x00\x00"},
		{list(del("")), "\x01\x01\x00"},
		{list(put("", "v"), del("\x00")), "\x02\x00\x00\x01v\x01\x01\x00"},
		{list(del(""), put("\x00", "\x00\xff")), "\x02\x01\x00\x00\x01\x00\x02\x00\xff"},
		{list(put("a", ""), put("a\x00", ""), del("aa"), del("\xff"), put("\xff\xff", "é")),
			"\x05\x00\x01a\x00\x00\x02a\x00\x00\x01\x02aa\x01\x01\xff\x00\x02\xff\xff\x02\xc3\xa9"},
		{list(put(k127, k128), del(k128), put(k16383, k16384), del(k16384), put(great, great)),
			"\x05\x00\x7f" + k127 + "\x80\x01" + k128 + "\x01\x80\x01" + k128 + "\x00\xff\x7f" + k16383 + "\x80\x80\x01" + k16384 +
				"\x01\x80\x80\x01" + k16384 + "\x00\x80\x80\x80\x01" + great + "\x80\x80\x80\x01" + great},
	} {
		if got, err := batch.Encode(c.ops); got != c.bytes || err != nil {
			t.Errorf("Encode(%s): %.200q, %v, want %.200q", shown(c.ops), got, err, c.bytes)
		}
		if got, err := batch.Decode(c.bytes); !slices.Equal(got, c.ops) || err != nil {
			t.Errorf("Decode(%.200q): %s, %v, want %s", c.bytes, shown(got), err, shown(c.ops))
		}
	}
}

// TestManyOps asks for numbers of ops whose varints have one byte, two and three.
func TestManyOps(t *testing.T) {
	for _, count := range []int{1, 127, 128, 16383, 16384, 40000} {
		var ops []api.Op
		var form strings.Builder
		form.WriteString(varint(uint64(count)))
		for i := range count {
			key := string(binary.BigEndian.AppendUint32(nil, uint32(i)))
			if i%3 == 0 {
				ops = append(ops, del(key))
				form.WriteString("\x01\x04" + key)
			} else {
				ops = append(ops, put(key, "v"))
				form.WriteString("\x00\x04" + key + "\x01v")
			}
		}
		if got, err := batch.Encode(ops); got != form.String() || err != nil {
			t.Errorf("Encode of %d ops: %d bytes, %v, want %d", count, len(got), err, form.Len())
		}
		if back, err := batch.Decode(form.String()); !slices.Equal(back, ops) || err != nil {
			t.Errorf("Decode of %d ops: %d, %v", count, len(back), err)
		}
	}
}

func TestEncodeRefuses(t *testing.T) {
	for _, c := range []struct {
		ops  []api.Op
		want error
	}{
		{list(put("a", ""), put("a", "")), api.ErrOrder},
		{list(put("", ""), put("", "")), api.ErrOrder},
		{list(del(""), put("", "")), api.ErrOrder},
		{list(put("a", "1"), del("a")), api.ErrOrder},
		{list(put("a", ""), put("", "")), api.ErrOrder},
		{list(put("a\x00", ""), put("a", "")), api.ErrOrder},
		{list(put("\x80", ""), put("a", "")), api.ErrOrder},
		{list(put("a", ""), put("c", ""), put("b", ""), put("d", "")), api.ErrOrder},
		{list(put("a", ""), put("b", ""), put("c", ""), put("c", "")), api.ErrOrder},
		{list(put("b", ""), put("c", ""), put("a", "")), api.ErrOrder},
		{list(delWith("", "x")), api.ErrForm},
		{list(delWith("a", "\x00")), api.ErrForm},
		{list(delWith("a", "a"), put("b", "")), api.ErrForm},
		{list(put("a", "x"), del("b"), delWith("c", "x")), api.ErrForm},
		{list(put("a", "x"), delWith("b", "x"), del("c")), api.ErrForm},
		// Both: the order comes first, wherever it is broken.
		{list(delWith("b", "x"), delWith("a", "x")), api.ErrOrder},
		{list(delWith("a", "x"), put("b", ""), put("b", "")), api.ErrOrder},
		{list(put("b", ""), put("a", ""), delWith("c", "x")), api.ErrOrder},
	} {
		checkEncode(t, c.ops, "", c.want)
	}
}

// TestDecodeRefuses asks for the refusals of each part, and for the first one where several parts are wrong.
func TestDecodeRefuses(t *testing.T) {
	const nine = "\xff\xff\xff\xff\xff\xff\xff\xff\xff"
	above, most := varint(1<<31), varint(1<<31-1)
	for _, c := range []struct {
		s    string
		want error
	}{
		// The number of ops.
		{"", api.ErrShort}, {"\x80", api.ErrShort}, {nine, api.ErrShort},
		{"\x80\x00", api.ErrVarint}, {"\x81\x80\x00", api.ErrVarint}, {nine + "\x02", api.ErrVarint}, {nine + "\xff\x01", api.ErrVarint},
		{nine + "\x01", api.ErrShort}, {nine + "\x01\x01\x00", api.ErrShort}, {nine + "\x01\x00\x00\x00\x01\x01a", api.ErrShort},
		{varint(math.MaxInt64) + "\x01\x00", api.ErrShort}, {varint(1<<63) + "\x01\x00", api.ErrShort}, {varint(1<<32) + "\x01\x00", api.ErrShort},
		{nine + "\x01\x02", api.ErrForm}, {nine + "\x01\x01\x00\x01\x00", api.ErrOrder},
		// An op's byte.
		{"\x01\x02", api.ErrForm}, {"\x01\xff\x01a", api.ErrForm}, {"\x01\x80\x01a\x00", api.ErrForm}, {"\x01\x03\x80\x00", api.ErrForm},
		{"\x02\x01\x00", api.ErrShort}, {"\x02\x01\x00\x02", api.ErrForm}, {"\x02\x00\x01b\x00\x02\x01a", api.ErrForm},
		// Its key.
		{"\x01\x00", api.ErrShort}, {"\x01\x01", api.ErrShort}, {"\x01\x01\x01", api.ErrShort}, {"\x01\x01\x80", api.ErrShort},
		{"\x01\x01\x80\x00", api.ErrVarint}, {"\x01\x00\x81\x00a\x00", api.ErrVarint}, {"\x01\x01" + nine + "\x02", api.ErrVarint},
		{"\x01\x01" + above, api.ErrLimit}, {"\x01\x00" + above + "a", api.ErrLimit}, {"\x01\x01" + nine + "\x01", api.ErrLimit},
		{"\x01\x01" + most, api.ErrShort}, {"\x01\x00" + most + "a", api.ErrShort},
		{"\x02\x01\x01b\x01\x01", api.ErrShort}, {"\x02\x01\x01b\x01" + above, api.ErrLimit},
		// Its order.
		{"\x02\x01\x00\x01\x00", api.ErrOrder}, {"\x02\x00\x01a\x00\x01\x01a", api.ErrOrder}, {"\x02\x01\x01a\x00\x01a\x00", api.ErrOrder},
		{"\x02\x00\x01a\x00\x01\x00", api.ErrOrder}, {"\x02\x01\x02aa\x01\x01a", api.ErrOrder}, {"\x02\x01\x01\x80\x01\x01a", api.ErrOrder},
		{"\x03\x01\x01a\x01\x01c\x01\x01b", api.ErrOrder}, {"\x03\x01\x01b\x01\x01c\x01\x01a", api.ErrOrder},
		// The order comes ahead of the value.
		{"\x02\x00\x01a\x00\x00\x01a", api.ErrOrder}, {"\x02\x00\x01a\x00\x00\x01a\x80\x00", api.ErrOrder}, {"\x02\x00\x01a\x00\x00\x01a" + above, api.ErrOrder},
		// Its value.
		{"\x01\x00\x01a", api.ErrShort}, {"\x01\x00\x01a\x01", api.ErrShort}, {"\x01\x00\x00\x80", api.ErrShort},
		{"\x01\x00\x00\x80\x00", api.ErrVarint}, {"\x01\x00\x00" + nine + "\x02", api.ErrVarint},
		{"\x01\x00\x00" + above, api.ErrLimit}, {"\x01\x00\x00" + nine + "\x01", api.ErrLimit}, {"\x01\x00\x00" + most + "a", api.ErrShort},
		// A value comes ahead of the next op.
		{"\x02\x00\x01b\x80\x00\x01\x01a", api.ErrVarint}, {"\x02\x00\x01b\x05\x01\x01a", api.ErrShort},
		// What is left.
		{"\x00\x00", api.ErrTail}, {"\x00\x01\x00", api.ErrTail}, {"\x01\x01\x00\x00", api.ErrTail}, {"\x01\x00\x00\x00\xff", api.ErrTail},
		{"\x01\x01\x01b\x01\x01a", api.ErrTail}, {"\x02\x01\x00\x01\x01a\x80", api.ErrTail},
	} {
		checkDecode(t, c.s, nil, c.want)
	}
}

func TestApply(t *testing.T) {
	for _, c := range []struct {
		x    *table.Table
		ops  []api.Op
		want *table.Table
	}{
		{of(), nil, of()},
		{of("a", "1"), nil, of("a", "1")},
		{of(), list(put("", "")), of("", "")},
		{of("", ""), list(del("")), of()},
		{of(), list(del("a")), of()},
		{of("a", "1"), list(put("a", "2"), put("b", "3")), of("a", "2", "b", "3")},
		{of("a", "1"), list(put("a", "1"), del("b")), of("a", "1")},
		// Not in normal form: one by one, in their order.
		{of("a", "1"), list(put("b", "1"), del("a"), put("b", "2"), put("a", "3")), of("a", "3", "b", "2")},
		{of("a", "1"), list(del("a"), put("a", "2"), del("a")), of()},
		{of(), list(put("c", "1"), put("b", "2"), put("a", "3"), put("c", "4"), del("b")), of("a", "3", "c", "4")},
		// A delete's Value is no word of its own.
		{of("a", "1", "b", "2"), list(delWith("a", "1"), delWith("c", "2")), of("b", "2")},
		{of("a", "1"), list(delWith("a", "2"), put("a", "")), of("a", "")},
	} {
		copied := c.x.Clone()
		checkApply(t, c.x, c.ops, c.want)
		// What is in normal form, or is to be brought into it, comes to the same.
		checkApply(t, copied, batch.Normal(c.ops), c.want)
	}
}

// TestApplyIsSeenByTheTableAlone asks whether clones and iterators of the table keep their rows.
func TestApplyIsSeenByTheTableAlone(t *testing.T) {
	x := of("a", "1", "b", "2")
	before, copied := x.From(""), x.Clone()
	checkApply(t, x, list(put("c", "3"), del("a"), put("b", "4")), of("b", "4", "c", "3"))
	if !slices.Equal(copied.Rows(), of("a", "1", "b", "2").Rows()) {
		t.Errorf("a clone has %q", copied.Rows())
	}
	told := of()
	for key, value := range before {
		told.Put(key, value)
	}
	if !slices.Equal(told.Rows(), copied.Rows()) {
		t.Errorf("an iterator tells %q", told.Rows())
	}
}

func TestBetween(t *testing.T) {
	for _, c := range []struct {
		a, b *table.Table
		want []api.Op
	}{
		{of(), of(), nil},
		{of("a", "1"), of("a", "1"), nil},
		{of("", ""), of("", ""), nil},
		{of(), of("", ""), list(put("", ""))},
		{of("", ""), of(), list(del(""))},
		{of("", ""), of("", "x"), list(put("", "x"))},
		{of("a", "x"), of("a", ""), list(put("a", ""))},
		// A delete is bare, whatever the row's value was.
		{of("a", "x"), of(), list(del("a"))},
		{of("a", "1"), of("b", "1"), list(del("a"), put("b", "1"))},
		{of("b", "1"), of("a", "1"), list(put("a", "1"), del("b"))},
		// Deletes and puts stand among each other by their keys.
		{of("a", "1", "c", "1", "e", "1", "g", "1"), of("b", "2", "d", "2", "e", "1", "f", "2", "g", "2"),
			list(del("a"), put("b", "2"), del("c"), put("d", "2"), put("f", "2"), put("g", "2"))},
		{of("b", "2", "d", "2", "e", "1", "f", "2", "g", "2"), of("a", "1", "c", "1", "e", "1", "g", "1"),
			list(put("a", "1"), del("b"), put("c", "1"), del("d"), del("f"), put("g", "1"))},
		{of("a", "1", "a\x00", "1", "\x80", "1"), of("a", "2", "aa", "1", "\xff", "1"),
			list(put("a", "2"), del("a\x00"), put("aa", "1"), del("\x80"), put("\xff", "1"))},
	} {
		checkBetween(t, c.a, c.b, c.want)
		checkBetween(t, c.a, c.a, nil)
		checkBetween(t, c.b, c.b.Clone(), nil)
		checkApply(t, c.a.Clone(), c.want, c.b)
	}
}

// TestListsHandedInStay asks whether a list stays as it is, spare room included, and whether an answer shares nothing with it.
func TestListsHandedInStay(t *testing.T) {
	for _, room := range [][]api.Op{
		list(put("b", "1"), delWith("a", "x"), put("b", "2"), put("c", "3"), put("spare", "4"), del("spare")),
		list(put("a", "1"), del("b"), put("c", "2"), del("d"), put("spare", "4"), delWith("spare", "x")),
	} {
		ops, stays := room[:4], slices.Clone(room)
		normal := batch.Normal(ops)
		want := slices.Clone(normal)
		bytes, err := batch.Encode(ops)
		wantBytes := strings.Clone(bytes)
		x := of()
		batch.Apply(x, ops)
		rows := x.Rows()
		if !slices.Equal(room, stays) {
			t.Fatalf("the list handed in is %s, was %s", shown(room), shown(stays))
		}
		for i := range room {
			room[i] = put("y", "z")
		}
		if !slices.Equal(normal, want) || bytes != wantBytes || !slices.Equal(x.Rows(), rows) {
			t.Errorf("what is written into the list is seen: %s, % x, %v, %q", shown(normal), bytes, err, x.Rows())
		}
	}
}

// TestAnswersAreNewMemory writes into one answer, spare room included, and asks again.
func TestAnswersAreNewMemory(t *testing.T) {
	ops := list(put("a", "1"), del("b"), put("c", "2"))
	bytes, err := batch.Encode(ops)
	if err != nil {
		t.Fatal(err)
	}
	a, b := of("b", "1"), of("a", "1", "c", "2")
	for what, call := range map[string]func() []api.Op{
		"Normal":  func() []api.Op { return batch.Normal(ops) },
		"Decode":  func() []api.Op { return decoded(t, bytes) },
		"Between": func() []api.Op { return batch.Between(a, b) },
	} {
		first, second := call(), call()
		first = first[:cap(first)]
		for i := range first {
			first[i] = put("y", "z")
		}
		if !slices.Equal(second, ops) || !slices.Equal(call(), ops) {
			t.Errorf("%s: what is written into one answer stands in another one: %s", what, shown(second))
		}
	}
	if !slices.Equal(ops, list(put("a", "1"), del("b"), put("c", "2"))) {
		t.Errorf("the list handed in is %s", shown(ops))
	}
}

func decoded(t *testing.T, s string) []api.Op {
	t.Helper()
	ops, err := batch.Decode(s)
	if err != nil {
		t.Fatalf("Decode(% x): %v", s, err)
	}
	return ops
}
