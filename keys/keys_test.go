package keys_test

import (
	"math"
	"remit/api"
	"remit/keys"
	"slices"
	"strings"
	"testing"
)

func text(s string) api.Part        { return keys.Text(s) }
func number(n int64) api.Part       { return keys.Number(n) }
func list(p ...api.Part) []api.Part { return p }

// seen is p without the field that isn't looked at.
func seen(p api.Part) api.Part {
	if p.Number {
		return api.Part{Number: true, N: p.N}
	}
	return api.Part{S: p.S}
}

func seenAll(parts []api.Part) []api.Part {
	out := make([]api.Part, len(parts))
	for i, p := range parts {
		out[i] = seen(p)
	}
	return out
}

func TestParts(t *testing.T) {
	for _, s := range []string{"", "a", "\x00", "\xff", strings.Repeat("x", 1000)} {
		if got := keys.Text(s); got != (api.Part{S: s}) {
			t.Errorf("Text(%q): %v", s, got)
		}
	}
	for _, n := range []int64{0, 1, -1, math.MinInt64, math.MaxInt64} {
		if got := keys.Number(n); got != (api.Part{Number: true, N: n}) {
			t.Errorf("Number(%d): %v", n, got)
		}
	}
}

func TestForms(t *testing.T) {
	for _, x := range []struct {
		parts []api.Part
		want  string
	}{
		{nil, ""},
		{list(), ""},
		{list(number(0)), "\x01\x80\x00\x00\x00\x00\x00\x00\x00"},
		{list(number(-1)), "\x01\x7f\xff\xff\xff\xff\xff\xff\xff"},
		{list(number(1)), "\x01\x80\x00\x00\x00\x00\x00\x00\x01"},
		{list(number(256)), "\x01\x80\x00\x00\x00\x00\x00\x01\x00"},
		{list(number(0x0102030405060708)), "\x01\x81\x02\x03\x04\x05\x06\x07\x08"},
		{list(number(math.MinInt64)), "\x01\x00\x00\x00\x00\x00\x00\x00\x00"},
		{list(number(math.MaxInt64)), "\x01\xff\xff\xff\xff\xff\xff\xff\xff"},
		{list(text("")), "\x02\x00\x01"},
		{list(text("a")), "\x02a\x00\x01"},
		{list(text("\x00")), "\x02\x00\xff\x00\x01"},
		{list(text("\x00\x00")), "\x02\x00\xff\x00\xff\x00\x01"},
		{list(text("\x00\x01")), "\x02\x00\xff\x01\x00\x01"},
		{list(text("\x00\xff")), "\x02\x00\xff\xff\x00\x01"},
		{list(text("\x01")), "\x02\x01\x00\x01"},
		{list(text("\xff")), "\x02\xff\x00\x01"},
		{list(text("a\x00b\x00")), "\x02a\x00\xffb\x00\xff\x00\x01"},
		{list(text("\x01\x02\x03")), "\x02\x01\x02\x03\x00\x01"},
		{list(text("a"), number(1)), "\x02a\x00\x01\x01\x80\x00\x00\x00\x00\x00\x00\x01"},
		{list(number(1), text("a")), "\x01\x80\x00\x00\x00\x00\x00\x00\x01\x02a\x00\x01"},
		{list(text(""), text("")), "\x02\x00\x01\x02\x00\x01"},
		{list(api.Part{}), "\x02\x00\x01"},
		{list(api.Part{Number: true, N: 1, S: "not looked at"}), "\x01\x80\x00\x00\x00\x00\x00\x00\x01"},
		{list(api.Part{N: 7, S: "x"}), "\x02x\x00\x01"},
	} {
		key := keys.Join(x.parts...)
		if key != x.want {
			t.Errorf("Join(%v): % x, want % x", x.parts, key, x.want)
		}
		got, err := keys.Split(x.want)
		if err != nil || !slices.Equal(got, seenAll(x.parts)) {
			t.Errorf("Split(% x): %v, %v, want %v", x.want, got, err, x.parts)
		}
	}
}

func TestSplitRefuses(t *testing.T) {
	whole := keys.Join(number(1), text("a"))
	for _, s := range []string{
		"\x00", "\x03", "a", "\xff",
		"\x01", "\x01\x00", "\x01\x80\x00\x00\x00\x00\x00\x00",
		"\x02", "\x02a", "\x02\x00", "\x02\xff", "\x02\x01",
		"\x02\x00\x00", "\x02\x00\x00\x01", "\x02\x00\x02", "\x02\x00\x02\x00\x01", "\x02\x00\xfe\x00\x01",
		"\x02\x00\xff", "\x02\x00\xff\x01", "\x02\x00\xff\x00", "\x02a\x00b\x00\x01",
		whole + "\x00", whole + "x", whole + "\x01", whole + "\x02", whole + "\x02\x00", whole + "\x03",
		"\x00" + whole, whole[1:], whole[:len(whole)-1],
	} {
		if parts, err := keys.Split(s); err != api.ErrForm || len(parts) != 0 {
			t.Errorf("Split(% x): %v, %v", s, parts, err)
		}
	}
}

func TestCompare(t *testing.T) {
	for _, x := range []struct {
		a, b []api.Part
		want int
	}{
		{nil, nil, 0},
		{nil, list(), 0},
		{nil, list(number(-1)), -1},
		{nil, list(number(math.MinInt64)), -1},
		{nil, list(text("")), -1},
		{list(number(5)), list(text("")), -1},
		{list(number(math.MaxInt64)), list(text("")), -1},
		{list(number(5)), list(number(5)), 0},
		{list(number(-5)), list(number(3)), -1},
		{list(number(-1)), list(number(0)), -1},
		{list(number(2)), list(number(10)), -1},
		{list(number(math.MinInt64)), list(number(math.MaxInt64)), -1},
		{list(number(math.MinInt64)), list(number(math.MinInt64 + 1)), -1},
		{list(text("b")), list(text("a"), number(1)), 1},
		{list(text("a")), list(text("a"), number(math.MinInt64)), -1},
		{list(text("a"), number(9)), list(text("a"), text("")), -1},
		{list(text("a"), number(9)), list(text("b"), number(1)), -1},
		{list(text("a")), list(text("a\x00")), -1},
		{list(text("a"), text("z")), list(text("a\x00"), text("a")), -1},
		{list(text("")), list(text("\x00")), -1},
		{list(text("\x00")), list(text("\x00\x00")), -1},
		{list(text("\x00\xff")), list(text("\x01")), -1},
		{list(text("a\x7f")), list(text("a\x80")), -1},
		{list(text("2")), list(text("10")), 1},
		{list(text("same"), number(1)), list(text("same"), number(1)), 0},
		{list(api.Part{Number: true, N: 1, S: "b"}), list(api.Part{Number: true, N: 1, S: "a"}), 0},
		{list(api.Part{N: 2, S: "a"}), list(api.Part{N: 1, S: "a"}), 0},
		{list(api.Part{N: 2, S: "a"}, number(1)), list(api.Part{N: 1, S: "a"}, number(2)), -1},
	} {
		checkOrder(t, x.a, x.b, x.want)
		checkOrder(t, x.b, x.a, -x.want)
	}
}

// checkOrder asks for the order of two lists, and for the same one of their keys.
func checkOrder(t *testing.T, a, b []api.Part, want int) {
	t.Helper()
	if got := keys.Compare(a, b); got != want {
		t.Errorf("Compare(%v, %v): %d, want %d", a, b, got, want)
	}
	if got := strings.Compare(keys.Join(a...), keys.Join(b...)); got != want {
		t.Errorf("the keys of %v and %v: %d, want %d", a, b, got, want)
	}
}

func TestAfter(t *testing.T) {
	for _, x := range []struct{ s, want string }{
		{"ab", "ac"},
		{"a", "b"},
		{"\x00", "\x01"},
		{"a\x00", "a\x01"},
		{"a\xff\xff", "b"},
		{"a\xff", "b"},
		{"a\xfe", "a\xff"},
		{"\xfe", "\xff"},
		{"\xfe\xff\xff", "\xff"},
		{"\xffa\xff", "\xffb"},
		{"\xff\x00\xff", "\xff\x01"},
		{"a\x80", "a\x81"},
		{"a\xc3\xbf", "a\xc3\xc0"},
		{"a\xef\xbf\xbd", "a\xef\xbf\xbe"},
		{"a\xef\xbf\xbd\xff", "a\xef\xbf\xbe"},
		{"\x7f", "\x80"},
	} {
		if got, ok := keys.After(x.s); got != x.want || !ok {
			t.Errorf("After(%q): %q, %v, want %q", x.s, got, ok, x.want)
		}
	}
	for _, s := range []string{"", "\xff", "\xff\xff", strings.Repeat("\xff", 300)} {
		if got, ok := keys.After(s); got != "" || ok {
			t.Errorf("After(%q): %q, %v", s, got, ok)
		}
	}
}

func TestNothingIsChangedOrShared(t *testing.T) {
	room := list(text("a\x00"), api.Part{Number: true, N: 3, S: "x"}, text("spare"))
	before := slices.Clone(room)
	key := keys.Join(room[:2]...)
	keys.Compare(room[:2], room[:1])
	if !slices.Equal(room, before) {
		t.Errorf("what was handed in is now %v", room)
	}
	clear(room)
	first, err1 := keys.Split(key)
	second, err2 := keys.Split(key)
	if err1 != nil || err2 != nil {
		t.Fatal(err1, err2)
	}
	clear(first[:cap(first)])
	third, err := keys.Split(key)
	want := list(text("a\x00"), number(3))
	if err != nil || !slices.Equal(second, want) || !slices.Equal(third, want) {
		t.Errorf("answers share memory: %v, %v, %v", second, third, err)
	}
}
