// Package wire is layer 1: values as bytes and back, each value in just one form: see shared/doc/01-wire.md.
package wire

import (
	"math"
	"remit/api"
	"strings"
)

// nanBits stand for every NaN, so that equal rows have equal bytes though NaNs have many patterns.
const nanBits = 0x7fc00000

const (
	fixedSize = 8
	floatSize = 4
	// lastAt is where a varint's tenth byte stands: of the 64 bits only one is left for it.
	lastAt = 9
)

// Writer gathers bytes.
type Writer struct {
	out strings.Builder
}

// New begins with no bytes.
func New() *Writer { return &Writer{} }

// Uint writes an unsigned varint.
func (w *Writer) Uint(x uint64) {
	for x >= 128 {
		w.Byte(byte(x) | 128)
		x >>= 7
	}
	w.Byte(byte(x))
}

// Int writes a signed varint.
func (w *Writer) Int(x int64) { w.Uint(zigzag(x)) }

// Fixed writes eight bytes, the low one first.
func (w *Writer) Fixed(x uint64) { w.lowFirst(x, fixedSize) }

// Byte writes a byte.
func (w *Writer) Byte(b byte) { w.out.WriteByte(b) }

// Float writes a float's four bytes, the low one first.
func (w *Writer) Float(f float32) { w.lowFirst(uint64(floatBits(f)), floatSize) }

// Text writes a text with its length ahead of it.
func (w *Writer) Text(s string) { writeList(w, s, w.bytes) }

// Texts writes a list of texts.
func (w *Writer) Texts(list []string) { writeList(w, list, w.each) }

// Len tells how many bytes there are.
func (w *Writer) Len() int { return w.out.Len() }

// Out is the bytes.
func (w *Writer) Out() string { return w.out.String() }

// writeList is generic because a text is a list too, one of small numbers: both have the number of their items ahead of them. It hands the items on all at once, so that a text's bytes needn't go one by one.
func writeList[L string | []string](w *Writer, items L, put func(L)) {
	w.Uint(uint64(len(items)))
	put(items)
}

func (w *Writer) bytes(s string) { w.out.WriteString(s) }

func (w *Writer) each(list []string) {
	for _, s := range list {
		w.Text(s)
	}
}

func (w *Writer) lowFirst(x uint64, size int) {
	for range size {
		w.Byte(byte(x))
		x >>= 8
	}
}

// Reader reads bytes from the front; a refused read doesn't move it.
type Reader struct {
	s  string
	at int
}

// Read reads s.
func Read(s string) *Reader { return &Reader{s: s} }

// Uint reads an unsigned varint in its shortest form.
func (r *Reader) Uint() (uint64, error) {
	x, size, err := varint(r.s[r.at:])
	r.at += size
	return x, err
}

// Upto reads an unsigned varint that is at most most.
func (r *Reader) Upto(most int) (int, error) {
	x, size, err := varint(r.s[r.at:])
	if err != nil {
		return 0, err
	}
	// Most is looked at first: below 0 it would turn into a great unsigned number.
	if most < 0 || x > uint64(most) {
		return 0, api.ErrLimit
	}
	r.at += size
	return int(x), nil
}

// Int reads a signed varint.
func (r *Reader) Int() (int64, error) {
	x, err := r.Uint()
	return unzigzag(x), err
}

// Fixed reads eight bytes.
func (r *Reader) Fixed() (uint64, error) {
	s, err := r.take(fixedSize)
	return number(s), err
}

// Byte reads a byte.
func (r *Reader) Byte() (byte, error) {
	s, err := r.take(1)
	return byte(number(s)), err
}

// Float reads a float.
func (r *Reader) Float() (float32, error) {
	at := r.at
	s, err := r.take(floatSize)
	if err != nil {
		return 0, err
	}
	bits := uint32(number(s))
	f := math.Float32frombits(bits)
	if floatBits(f) != bits {
		r.at = at
		return 0, api.ErrForm
	}
	return f, nil
}

// Text reads a text of at most most bytes.
func (r *Reader) Text(most int) (string, error) {
	at := r.at
	size, err := r.Upto(most)
	if err != nil {
		return "", err
	}
	s, err := r.take(size)
	if err != nil {
		r.at = at
	}
	return s, err
}

// Texts reads a list of at most count texts of at most most bytes each.
func (r *Reader) Texts(count, most int) ([]string, error) {
	at := r.at
	n, err := r.Upto(count)
	if err != nil {
		return nil, err
	}
	// The list grows with what is really there: the number ahead may promise more than memory holds.
	var list []string
	for range n {
		s, err := r.Text(most)
		if err != nil {
			r.at = at
			return nil, err
		}
		list = append(list, s)
	}
	return list, nil
}

// At tells how many bytes have been read.
func (r *Reader) At() int { return r.at }

// Left tells how many bytes are left.
func (r *Reader) Left() int { return len(r.s) - r.at }

// Done answers ErrTail where bytes are left.
func (r *Reader) Done() error {
	if r.Left() > 0 {
		return api.ErrTail
	}
	return nil
}

func (r *Reader) take(size int) (string, error) {
	if size > r.Left() {
		return "", api.ErrShort
	}
	s := r.s[r.at : r.at+size]
	r.at += size
	return s, nil
}

// varint is the number that s begins with, and how many bytes its form has: none beside an error.
func varint(s string) (uint64, int, error) {
	var x uint64
	for i := 0; i < len(s); i++ {
		b := s[i]
		if i == lastAt && b > 1 {
			return 0, 0, api.ErrVarint
		}
		x |= uint64(b&127) << (7 * i)
		if b >= 128 {
			continue
		}
		if b == 0 && i > 0 {
			return 0, 0, api.ErrVarint
		}
		return x, i + 1, nil
	}
	return 0, 0, api.ErrShort
}

// number is what these bytes, the low one first, come to.
func number(s string) uint64 {
	var x uint64
	for i := len(s) - 1; i >= 0; i-- {
		x = x<<8 | uint64(s[i])
	}
	return x
}

// zigzag folds the numbers below 0 in between the others, so that small ones have short varints whatever their sign.
func zigzag(x int64) uint64 { return uint64(x)<<1 ^ uint64(x>>63) }

func unzigzag(x uint64) int64 { return int64(x>>1) ^ -int64(x&1) }

func floatBits(f float32) uint32 {
	if math.IsNaN(float64(f)) {
		return nanBits
	}
	return math.Float32bits(f)
}
