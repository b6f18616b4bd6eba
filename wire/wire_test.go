package wire_test

import (
	"encoding/binary"
	"math"
	"remit/api"
	"remit/wire"
	"slices"
	"strings"
	"testing"
)

var (
	nine     = strings.Repeat("\xff", 9)
	negative = math.Float32frombits(1 << 31)
	canonic  = math.Float32frombits(0x7fc00000)
)

// written is what one call puts into a new Writer.
func written(put func(w *wire.Writer)) string {
	w := wire.New()
	put(w)
	return w.Out()
}

func uintForm(x uint64) string       { return written(func(w *wire.Writer) { w.Uint(x) }) }
func intForm(x int64) string         { return written(func(w *wire.Writer) { w.Int(x) }) }
func fixedForm(x uint64) string      { return written(func(w *wire.Writer) { w.Fixed(x) }) }
func byteForm(b byte) string         { return written(func(w *wire.Writer) { w.Byte(b) }) }
func floatForm(f float32) string     { return written(func(w *wire.Writer) { w.Float(f) }) }
func textForm(s string) string       { return written(func(w *wire.Writer) { w.Text(s) }) }
func textsForm(list []string) string { return written(func(w *wire.Writer) { w.Texts(list) }) }

// edges are numbers around every place at which a form grows or turns.
func edges() []uint64 {
	list := []uint64{0, math.MaxUint64}
	for shift := range 64 {
		x := uint64(1) << shift
		list = append(list, x-1, x, x+1)
	}
	return list
}

func TestForms(t *testing.T) {
	for _, x := range []struct{ name, got, want string }{
		{"Uint(0)", uintForm(0), "\x00"},
		{"Uint(127)", uintForm(127), "\x7f"},
		{"Uint(128)", uintForm(128), "\x80\x01"},
		{"Uint(300)", uintForm(300), "\xac\x02"},
		{"Uint(2^63)", uintForm(1 << 63), strings.Repeat("\x80", 9) + "\x01"},
		{"Uint(2^64-1)", uintForm(math.MaxUint64), nine + "\x01"},
		{"Int(0)", intForm(0), "\x00"},
		{"Int(-1)", intForm(-1), "\x01"},
		{"Int(1)", intForm(1), "\x02"},
		{"Int(-64)", intForm(-64), "\x7f"},
		{"Int(64)", intForm(64), "\x80\x01"},
		{"Int(2^63-1)", intForm(math.MaxInt64), "\xfe" + nine[1:] + "\x01"},
		{"Int(-2^63)", intForm(math.MinInt64), nine + "\x01"},
		{"Fixed(0)", fixedForm(0), "\x00\x00\x00\x00\x00\x00\x00\x00"},
		{"Fixed(1)", fixedForm(1), "\x01\x00\x00\x00\x00\x00\x00\x00"},
		{"Fixed(0x0102030405060708)", fixedForm(0x0102030405060708), "\x08\x07\x06\x05\x04\x03\x02\x01"},
		{"Fixed(2^64-1)", fixedForm(math.MaxUint64), nine[1:]},
		{"Byte(0)", byteForm(0), "\x00"},
		{"Byte(255)", byteForm(255), "\xff"},
		{"Float(0)", floatForm(0), "\x00\x00\x00\x00"},
		{"Float(-0)", floatForm(negative), "\x00\x00\x00\x80"},
		{"Float(1)", floatForm(1), "\x00\x00\x80\x3f"},
		{"Float(-2.5)", floatForm(-2.5), "\x00\x00\x20\xc0"},
		{"Float(inf)", floatForm(float32(math.Inf(1))), "\x00\x00\x80\x7f"},
		{"Float(-inf)", floatForm(float32(math.Inf(-1))), "\x00\x00\x80\xff"},
		{"Float(smallest)", floatForm(math.SmallestNonzeroFloat32), "\x01\x00\x00\x00"},
		{"Text()", textForm(""), "\x00"},
		{"Text(ab)", textForm("ab"), "\x02ab"},
		{"Text(bytes that are no UTF-8)", textForm("\xff\x00"), "\x02\xff\x00"},
		{"Text(128 bytes)", textForm(strings.Repeat("x", 128)), "\x80\x01" + strings.Repeat("x", 128)},
		{"Texts()", textsForm(nil), "\x00"},
		{"Texts(empty)", textsForm([]string{}), "\x00"},
		{"Texts('', a)", textsForm([]string{"", "a"}), "\x02\x00\x01a"},
		{"Texts(200 empty ones)", textsForm(make([]string, 200)), "\xc8\x01" + strings.Repeat("\x00", 200)},
	} {
		if x.got != x.want {
			t.Errorf("%s: % x, want % x", x.name, x.got, x.want)
		}
	}
}

func TestNumbersAsTheLibraryWritesThem(t *testing.T) {
	for _, x := range edges() {
		if got, want := uintForm(x), string(binary.AppendUvarint(nil, x)); got != want {
			t.Errorf("Uint(%d): % x, want % x", x, got, want)
		}
		if got, want := intForm(int64(x)), string(binary.AppendVarint(nil, int64(x))); got != want {
			t.Errorf("Int(%d): % x, want % x", int64(x), got, want)
		}
		if got, want := fixedForm(x), string(binary.LittleEndian.AppendUint64(nil, x)); got != want {
			t.Errorf("Fixed(%d): % x, want % x", x, got, want)
		}
	}
}

func TestEveryNaNHasOneForm(t *testing.T) {
	for _, bits := range []uint32{0x7fc00000, 0xffc00000, 0x7fc00001, 0x7f800001, 0xff800001, 0x7fffffff, 0xffffffff, 0xffc12345} {
		f := math.Float32frombits(bits)
		if got := floatForm(f); got != "\x00\x00\xc0\x7f" {
			t.Errorf("Float(NaN %08x): % x", bits, got)
		}
		raw := string(binary.LittleEndian.AppendUint32(nil, bits))
		r := wire.Read(raw)
		got, err := r.Float()
		if bits == 0x7fc00000 {
			if err != nil || r.At() != 4 || math.Float32bits(got) != bits {
				t.Errorf("reading the one NaN: %v, %v at %d", got, err, r.At())
			}
		} else if err != api.ErrForm || got != 0 || r.At() != 0 {
			t.Errorf("reading % x: %v, %v at %d", raw, got, err, r.At())
		}
	}
}

func TestWriterGoesOn(t *testing.T) {
	w, other := wire.New(), wire.New()
	if w.Len() != 0 || w.Out() != "" {
		t.Errorf("a new Writer holds % x", w.Out())
	}
	puts := []func(w *wire.Writer){
		func(w *wire.Writer) { w.Uint(300) },
		func(w *wire.Writer) { w.Int(-2) },
		func(w *wire.Writer) { w.Fixed(1) },
		func(w *wire.Writer) { w.Byte(7) },
		func(w *wire.Writer) { w.Float(1) },
		func(w *wire.Writer) { w.Text("ab") },
		func(w *wire.Writer) { w.Texts([]string{"", "a"}) },
	}
	want, outs, wants := "", []string(nil), []string(nil)
	for i := range 3 * len(puts) {
		put := puts[i%len(puts)]
		put(w)
		other.Byte(byte(i))
		want += written(put)
		if w.Len() != len(want) || w.Out() != want || w.Out() != want {
			t.Fatalf("behind %d calls: % x (%d), want % x", i+1, w.Out(), w.Len(), want)
		}
		outs, wants = append(outs, w.Out()), append(wants, want)
	}
	if !slices.Equal(outs, wants) {
		t.Error("an earlier Out changed")
	}
	if other.Len() != 3*len(puts) {
		t.Errorf("the other Writer holds % x", other.Out())
	}
}

// asked is a call of a Reader and what it should come to: any value, so that unlike calls stand in one table.
type asked struct {
	s    string
	call func(r *wire.Reader) (any, error)
	want any
	err  error
	at   int
}

func askUint(r *wire.Reader) (any, error)  { return any2(r.Uint()) }
func askInt(r *wire.Reader) (any, error)   { return any2(r.Int()) }
func askFixed(r *wire.Reader) (any, error) { return any2(r.Fixed()) }
func askByte(r *wire.Reader) (any, error)  { return any2(r.Byte()) }
func askFloat(r *wire.Reader) (any, error) { return any2(r.Float()) }

func askUpto(most int) func(r *wire.Reader) (any, error) {
	return func(r *wire.Reader) (any, error) { return any2(r.Upto(most)) }
}

func askText(most int) func(r *wire.Reader) (any, error) {
	return func(r *wire.Reader) (any, error) { return any2(r.Text(most)) }
}

func askTexts(count, most int) func(r *wire.Reader) (any, error) {
	return func(r *wire.Reader) (any, error) {
		list, err := r.Texts(count, most)
		return textsForm(list), err
	}
}

func any2[T any](x T, err error) (any, error) { return x, err }

func (x asked) check(t *testing.T) {
	t.Helper()
	// The same call must come to the same where other bytes stand ahead.
	for _, ahead := range []string{"", "Z", "\x80"} {
		r := wire.Read(ahead + x.s)
		for range len(ahead) {
			r.Byte()
		}
		got, err := x.call(r)
		if got != x.want || err != x.err || r.At() != len(ahead)+x.at || r.Left() != len(x.s)-x.at {
			t.Errorf("% x behind % x: %v, %v at %d, want %v, %v at %d", x.s, ahead, got, err, r.At(), x.want, x.err, len(ahead)+x.at)
		}
		if done := r.Done(); (done == nil) != (r.Left() == 0) || done != nil && done != api.ErrTail {
			t.Errorf("% x: Done %v with %d left", x.s, done, r.Left())
		}
	}
}

func TestReadNumbers(t *testing.T) {
	for _, x := range []asked{
		{"\x00", askUint, uint64(0), nil, 1},
		{"\x7f", askUint, uint64(127), nil, 1},
		{"\x80\x01Z", askUint, uint64(128), nil, 2},
		{nine + "\x01", askUint, uint64(math.MaxUint64), nil, 10},
		{nine[1:] + "\x01", askUint, uint64(1<<57 - 1), nil, 9},
		{"", askUint, uint64(0), api.ErrShort, 0},
		{"\x80", askUint, uint64(0), api.ErrShort, 0},
		{nine, askUint, uint64(0), api.ErrShort, 0},
		{"\x80\x00", askUint, uint64(0), api.ErrVarint, 0},
		{"\xff\x80\x00", askUint, uint64(0), api.ErrVarint, 0},
		{nine + "\x00", askUint, uint64(0), api.ErrVarint, 0},
		{nine + "\x02", askUint, uint64(0), api.ErrVarint, 0},
		{nine + "\x80", askUint, uint64(0), api.ErrVarint, 0},
		{nine + "\xff", askUint, uint64(0), api.ErrVarint, 0},
		{nine + "\xff\x01", askUint, uint64(0), api.ErrVarint, 0},
		{"\x00", askInt, int64(0), nil, 1},
		{"\x01", askInt, int64(-1), nil, 1},
		{"\x02", askInt, int64(1), nil, 1},
		{nine + "\x01", askInt, int64(math.MinInt64), nil, 10},
		{"\xfe" + nine[1:] + "\x01", askInt, int64(math.MaxInt64), nil, 10},
		{"", askInt, int64(0), api.ErrShort, 0},
		{"\xff", askInt, int64(0), api.ErrShort, 0},
		{"\x81\x00", askInt, int64(0), api.ErrVarint, 0},
		{nine + "\x03", askInt, int64(0), api.ErrVarint, 0},
		{"\x08\x07\x06\x05\x04\x03\x02\x01Z", askFixed, uint64(0x0102030405060708), nil, 8},
		{nine[1:], askFixed, uint64(math.MaxUint64), nil, 8},
		{"1234567", askFixed, uint64(0), api.ErrShort, 0},
		{"", askFixed, uint64(0), api.ErrShort, 0},
		{"\xffZ", askByte, byte(255), nil, 1},
		{"", askByte, byte(0), api.ErrShort, 0},
		{"\x00\x00\x80\x3fZ", askFloat, float32(1), nil, 4},
		{"\x00\x00\x80\xff", askFloat, float32(math.Inf(-1)), nil, 4},
		{"\x01\x00\x00\x00", askFloat, float32(math.SmallestNonzeroFloat32), nil, 4},
		{"\x01\x00\xc0\x7f", askFloat, float32(0), api.ErrForm, 0},
		{"\x00\x00\xc0\xff", askFloat, float32(0), api.ErrForm, 0},
		{"\x01\x00\x80\x7f", askFloat, float32(0), api.ErrForm, 0},
		{"\x00\x00\xc0", askFloat, float32(0), api.ErrShort, 0},
		{"", askFloat, float32(0), api.ErrShort, 0},
	} {
		x.check(t)
	}
}

func TestReadUpto(t *testing.T) {
	past := string(binary.AppendUvarint(nil, math.MaxInt+1))
	for _, x := range []asked{
		{"\x00", askUpto(0), 0, nil, 1},
		{"\x01", askUpto(0), 0, api.ErrLimit, 0},
		{"\x00", askUpto(-1), 0, api.ErrLimit, 0},
		{"\x05", askUpto(math.MinInt), 0, api.ErrLimit, 0},
		{nine + "\x01", askUpto(-1), 0, api.ErrLimit, 0},
		{"\x80\x01", askUpto(127), 0, api.ErrLimit, 0},
		{"\x80\x01", askUpto(128), 128, nil, 2},
		{string(binary.AppendUvarint(nil, math.MaxInt)), askUpto(math.MaxInt), math.MaxInt, nil, 9},
		{past, askUpto(math.MaxInt), 0, api.ErrLimit, 0},
		{nine + "\x01", askUpto(math.MaxInt), 0, api.ErrLimit, 0},
		{"", askUpto(-1), 0, api.ErrShort, 0},
		{"\x80", askUpto(0), 0, api.ErrShort, 0},
		{"\x80\x00", askUpto(-1), 0, api.ErrVarint, 0},
		{nine + "\x02", askUpto(0), 0, api.ErrVarint, 0},
	} {
		x.check(t)
	}
}

func TestReadTexts(t *testing.T) {
	none := textsForm(nil)
	most := string(binary.AppendUvarint(nil, math.MaxInt))
	for _, x := range []asked{
		{"\x00", askText(0), "", nil, 1},
		{"\x02abZ", askText(2), "ab", nil, 3},
		{"\x02\xff\x00", askText(math.MaxInt), "\xff\x00", nil, 3},
		{"\x05a", askText(4), "", api.ErrLimit, 0},
		{"\x05a", askText(5), "", api.ErrShort, 0},
		{"\x01a", askText(-1), "", api.ErrLimit, 0},
		{"\x00", askText(-1), "", api.ErrLimit, 0},
		{"\x81\x00a", askText(9), "", api.ErrVarint, 0},
		{"", askText(9), "", api.ErrShort, 0},
		{most + "abc", askText(math.MaxInt), "", api.ErrShort, 0},
		{nine + "\x01abc", askText(math.MaxInt), "", api.ErrLimit, 0},
		{"\x00Z", askTexts(0, 0), none, nil, 1},
		{"\x00", askTexts(0, -1), none, nil, 1},
		{"\x00", askTexts(-1, 9), none, api.ErrLimit, 0},
		{"\x02\x00\x01aZ", askTexts(2, 1), textsForm([]string{"", "a"}), nil, 4},
		{"\x01\x00", askTexts(1, -1), none, api.ErrLimit, 0},
		{"\x02\x00\x05a", askTexts(1, 9), none, api.ErrLimit, 0},
		{"\x02\x00\x05a", askTexts(2, 4), none, api.ErrLimit, 0},
		{"\x02\x00\x05a", askTexts(2, 5), none, api.ErrShort, 0},
		{"\x02\x01a", askTexts(2, 5), none, api.ErrShort, 0},
		{"\x02\x01a\x80\x00", askTexts(2, 5), none, api.ErrVarint, 0},
		{"\x80\x00", askTexts(2, 5), none, api.ErrVarint, 0},
		{"", askTexts(2, 5), none, api.ErrShort, 0},
		{most + "\x00\x00", askTexts(math.MaxInt, math.MaxInt), none, api.ErrShort, 0},
		{nine + "\x01\x00", askTexts(math.MaxInt, math.MaxInt), none, api.ErrLimit, 0},
	} {
		x.check(t)
	}
}

func TestMinusZeroIsReadAsItself(t *testing.T) {
	f, err := wire.Read("\x00\x00\x00\x80").Float()
	if err != nil || math.Float32bits(f) != 1<<31 {
		t.Errorf("%v, %v", f, err)
	}
}

func TestListsAreNotShared(t *testing.T) {
	room := []string{"a", "b", "spare"}
	given := room[:2]
	w := wire.New()
	w.Texts(given)
	if !slices.Equal(room, []string{"a", "b", "spare"}) {
		t.Errorf("what was handed in is now %q", room)
	}
	given[0] = "changed"
	if w.Out() != "\x02\x01a\x01b" {
		t.Errorf("a list was kept: % x", w.Out())
	}

	r := wire.Read(w.Out() + w.Out())
	first, _ := r.Texts(9, 9)
	second, _ := r.Texts(9, 9)
	clear(first[:cap(first)])
	if !slices.Equal(second, []string{"a", "b"}) {
		t.Errorf("two answers share memory: %q", second)
	}
	again, err := wire.Read(w.Out()).Texts(9, 9)
	if err != nil || !slices.Equal(again, []string{"a", "b"}) {
		t.Errorf("an answer was kept: %q, %v", again, err)
	}
}
