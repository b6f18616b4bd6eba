package wire_test

import (
	"encoding/binary"
	"math"
	"math/rand/v2"
	"remit/api"
	"remit/wire"
	"slices"
	"strings"
	"testing"
)

// value is one value of each kind; Kind says which of the calls it is for.
type value struct {
	kind  int
	n     uint64
	f     float32
	s     string
	texts []string
}

const (
	kindUint = iota
	kindUpto
	kindInt
	kindFixed
	kindByte
	kindFloat
	kindText
	kindTexts
	kinds
)

// limits of a Reader's call; count is for Texts alone.
type limits struct{ count, most int }

var enough = limits{math.MaxInt, math.MaxInt}

func (v value) put(w *wire.Writer) {
	switch v.kind {
	case kindUint, kindUpto:
		w.Uint(v.n)
	case kindInt:
		w.Int(int64(v.n))
	case kindFixed:
		w.Fixed(v.n)
	case kindByte:
		w.Byte(byte(v.n))
	case kindFloat:
		w.Float(v.f)
	case kindText:
		w.Text(v.s)
	case kindTexts:
		w.Texts(v.texts)
	}
}

func (v value) form() string { return written(v.put) }

// read makes the call of a kind.
func read(r *wire.Reader, kind int, l limits) (value, error) {
	v := value{kind: kind}
	var err error
	switch kind {
	case kindUint:
		v.n, err = r.Uint()
	case kindUpto:
		var n int
		n, err = r.Upto(l.most)
		v.n = uint64(n)
	case kindInt:
		var n int64
		n, err = r.Int()
		v.n = uint64(n)
	case kindFixed:
		v.n, err = r.Fixed()
	case kindByte:
		var b byte
		b, err = r.Byte()
		v.n = uint64(b)
	case kindFloat:
		v.f, err = r.Float()
	case kindText:
		v.s, err = r.Text(l.most)
	case kindTexts:
		v.texts, err = r.Texts(l.count, l.most)
	}
	return v, err
}

// tight are the smallest limits under which a value can be read.
func (v value) tight() limits {
	switch v.kind {
	case kindUpto:
		return limits{0, int(v.n)}
	case kindText:
		return limits{0, len(v.s)}
	case kindTexts:
		longest := 0
		for _, s := range v.texts {
			longest = max(longest, len(s))
		}
		return limits{len(v.texts), longest}
	}
	return limits{-1, -1}
}

func same(a, b value) bool {
	return a.kind == b.kind && a.n == b.n && a.s == b.s && slices.Equal(a.texts, b.texts) &&
		(a.f != a.f && b.f != b.f || math.Float32bits(a.f) == math.Float32bits(b.f))
}

func texts(rnd *rand.Rand) string {
	lengths := []int{0, 1, 2, 3, 20, 127, 128, 255, 300}
	raw := make([]byte, lengths[rnd.IntN(len(lengths))])
	for i := range raw {
		raw[i] = byte(rnd.Uint32())
	}
	return string(raw)
}

func anyValue(rnd *rand.Rand) value {
	v := value{kind: rnd.IntN(kinds)}
	n := rnd.Uint64() >> rnd.IntN(64)
	switch v.kind {
	case kindUpto:
		v.n = n >> 1
	case kindByte:
		v.n = uint64(byte(n))
	case kindFloat:
		floats := []float32{0, negative, 1, canonic, float32(math.Inf(1)), math.MaxFloat32, math.Float32frombits(rnd.Uint32())}
		v.f = floats[rnd.IntN(len(floats))]
	case kindText:
		v.s = texts(rnd)
	case kindTexts:
		for range rnd.IntN(5) {
			v.texts = append(v.texts, texts(rnd))
		}
	default:
		v.n = n
	}
	return v
}

func TestThereAndBack(t *testing.T) {
	rnd := rand.New(rand.NewPCG(1, 2))
	for range 2000 {
		list := make([]value, rnd.IntN(20))
		w := wire.New()
		for i := range list {
			list[i] = anyValue(rnd)
			list[i].put(w)
		}
		wide, narrow := wire.Read(w.Out()), wire.Read(w.Out())
		for _, v := range list {
			if got, err := read(wide, v.kind, enough); err != nil || !same(got, v) {
				t.Fatalf("wrote %v, read %v, %v", v, got, err)
			}
			if got, err := read(narrow, v.kind, v.tight()); err != nil || !same(got, v) {
				t.Fatalf("wrote %v, read %v, %v under %v", v, got, err, v.tight())
			}
		}
		if wide.Done() != nil || narrow.Done() != nil || wide.At() != w.Len() || wide.Left() != 0 {
			t.Fatalf("the end: %v at %d of %d", wide.Done(), wide.At(), w.Len())
		}
	}
}

func TestEdgesThereAndBack(t *testing.T) {
	for _, n := range edges() {
		for _, kind := range []int{kindUint, kindInt, kindFixed} {
			v := value{kind: kind, n: n}
			r := wire.Read(v.form())
			if got, err := read(r, kind, enough); err != nil || !same(got, v) || r.Done() != nil {
				t.Errorf("wrote %v, read %v, %v", v, got, err)
			}
		}
	}
}

// TestOneForm goes over all short texts of bytes that mean something in some form: what is read must be what is written.
func TestOneForm(t *testing.T) {
	const letters = "\x00\x01\x02\x03\x7f\x80\x81\xc0\xff"
	heads := []string{"", strings.Repeat("\x80", 7), nine[1:]}
	var look func(s string, more int)
	look = func(s string, more int) {
		for _, head := range heads {
			oneForm(t, head+s)
		}
		for i := 0; more > 0 && i < len(letters); i++ {
			look(s+letters[i:i+1], more-1)
		}
	}
	look("", 4)
	for x := range 1 << 16 {
		oneForm(t, string([]byte{byte(x), byte(x >> 8)}))
	}
	for x := range 1 << 16 {
		oneForm(t, string(binary.LittleEndian.AppendUint32(nil, uint32(x)<<16|uint32(x%3))))
	}
}

func oneForm(t *testing.T, s string) {
	t.Helper()
	for kind := range kinds {
		r := wire.Read(s)
		v, err := read(r, kind, enough)
		if err == nil && v.form() != s[:r.At()] {
			t.Errorf("kind %d: % x was read as %v, whose form is % x", kind, s[:r.At()], v, v.form())
		}
	}
}

func TestCutShort(t *testing.T) {
	rnd := rand.New(rand.NewPCG(3, 4))
	for range 2000 {
		v := anyValue(rnd)
		form := v.form()
		for cut := range len(form) {
			r := wire.Read("Z" + form[:cut])
			r.Byte()
			got, err := read(r, v.kind, enough)
			if err != api.ErrShort || !same(got, value{kind: v.kind}) || r.At() != 1 {
				t.Fatalf("% x cut at %d: %v, %v at %d", form, cut, got, err, r.At())
			}
		}
	}
}

// model is the chapter's Reader, said again: it holds what is left.
type model struct{ left string }

func (m *model) varint() (uint64, int, error) {
	for n := 1; n <= len(m.left); n++ {
		last := m.left[n-1]
		if n == 10 && last > 1 {
			return 0, 0, api.ErrVarint
		}
		if last < 128 && last == 0 && n > 1 {
			return 0, 0, api.ErrVarint
		}
		if last < 128 {
			x, _ := binary.Uvarint([]byte(m.left[:n]))
			return x, n, nil
		}
	}
	return 0, 0, api.ErrShort
}

func (m *model) text(most int) (string, int, error) {
	x, n, err := m.varint()
	if err == nil && (most < 0 || x > uint64(most)) {
		err = api.ErrLimit
	} else if err == nil && x > uint64(len(m.left)-n) {
		err = api.ErrShort
	}
	if err != nil {
		return "", 0, err
	}
	return m.left[n : n+int(x)], n + int(x), nil
}

func (m *model) texts(l limits) ([]string, int, error) {
	x, at, err := m.varint()
	if err == nil && (l.count < 0 || x > uint64(l.count)) {
		err = api.ErrLimit
	}
	var list []string
	for i := uint64(0); err == nil && i < x; i++ {
		behind := model{m.left[at:]}
		s, n, err2 := behind.text(l.most)
		list, at, err = append(list, s), at+n, err2
	}
	if err != nil {
		return nil, 0, err
	}
	return list, at, nil
}

// read is what the call of a kind should answer; it goes on behind what it has read.
func (m *model) read(kind int, l limits) (value, error) {
	v, n := value{kind: kind}, 0
	var err error
	switch size := map[int]int{kindFixed: 8, kindByte: 1, kindFloat: 4}[kind]; {
	case size > len(m.left):
		err = api.ErrShort
	case size > 0:
		var raw [8]byte
		n = copy(raw[:], m.left[:size])
		v.n = binary.LittleEndian.Uint64(raw[:])
	case kind == kindText:
		v.s, n, err = m.text(l.most)
	case kind == kindTexts:
		v.texts, n, err = m.texts(l)
	default:
		v.n, n, err = m.varint()
	}
	if kind == kindUpto && err == nil && (l.most < 0 || v.n > uint64(l.most)) {
		err = api.ErrLimit
	}
	if kind == kindInt && err == nil {
		x, _ := binary.Varint([]byte(m.left[:n]))
		v.n = uint64(x)
	}
	if kind == kindFloat && err == nil {
		bits := uint32(v.n)
		v.n, v.f = 0, math.Float32frombits(bits)
		if v.f != v.f && bits != 0x7fc00000 {
			err = api.ErrForm
		}
	}
	if err != nil {
		return value{kind: kind}, err
	}
	m.left = m.left[n:]
	return v, nil
}

// TestAnyOrder makes calls in any order on two Readers by turns, over any bytes, refused calls among them.
func TestAnyOrder(t *testing.T) {
	const letters = "\x00\x00\x01\x01\x02\x02\x03\x05\x7f\x80\x80\x81\xc0\xffab"
	mosts := []int{math.MinInt, -1, 0, 1, 2, 5, 127, 128, 1 << 20, math.MaxInt}
	rnd := rand.New(rand.NewPCG(5, 6))
	for range 20000 {
		var readers [2]*wire.Reader
		var models [2]*model
		var whole [2]int
		for i := range readers {
			raw := make([]byte, rnd.IntN(40))
			for j := range raw {
				raw[j] = letters[rnd.IntN(len(letters))]
			}
			readers[i], models[i], whole[i] = wire.Read(string(raw)), &model{string(raw)}, len(raw)
		}
		for range 30 {
			i, kind := rnd.IntN(2), rnd.IntN(kinds)
			l := limits{mosts[rnd.IntN(len(mosts))], mosts[rnd.IntN(len(mosts))]}
			r, m, before := readers[i], models[i], models[i].left
			got, err := read(r, kind, l)
			want, wantErr := m.read(kind, l)
			if err != wantErr || !same(got, want) || r.Left() != len(m.left) || r.At() != whole[i]-len(m.left) {
				t.Fatalf("kind %d under %v over % x: %v, %v, %d left, want %v, %v, %d left", kind, l, before, got, err, r.Left(), want, wantErr, len(m.left))
			}
			if (r.Done() == api.ErrTail) != (len(m.left) > 0) || (r.Done() == nil) != (len(m.left) == 0) {
				t.Fatalf("Done with %d left: %v", len(m.left), r.Done())
			}
		}
	}
}
