package sector_test

import (
	"math"
	"remit/api"
	"remit/sector"
	"strings"
	"testing"
)

// nothing is so many zeros.
func nothing(n int) string { return strings.Repeat("\x00", n) }

// zeros is a sector on which nothing was written.
var zeros = nothing(api.SectorSize)

func sealed(t *testing.T, stamp uint64, payload string) string {
	t.Helper()
	raw, err := sector.Seal(stamp, payload)
	if err != nil {
		t.Fatalf("Seal(%d, %q): %v", stamp, payload, err)
	}
	return raw
}

func torn(t *testing.T, old, fresh string, n int) string {
	t.Helper()
	raw, err := sector.Tear(old, fresh, n)
	if err != nil {
		t.Fatalf("Tear(%q, %q, %d): %v", old, fresh, n, err)
	}
	return raw
}

func counts(stamp uint64, raw string) bool {
	_, ok := sector.Open(stamp, raw)
	return ok
}

func checkSeal(t *testing.T, stamp uint64, payload, want string, wantErr error) {
	t.Helper()
	if got, err := sector.Seal(stamp, payload); got != want || err != wantErr {
		t.Errorf("Seal(%d, %q): %q, %v, want %q, %v", stamp, payload, got, err, want, wantErr)
	}
}

func checkOpen(t *testing.T, stamp uint64, raw, want string, wantOk bool) {
	t.Helper()
	if got, ok := sector.Open(stamp, raw); got != want || ok != wantOk {
		t.Errorf("Open(%d, %q): %q, %v, want %q, %v", stamp, raw, got, ok, want, wantOk)
	}
}

func checkEnds(t *testing.T, raw string, front, back uint64, wantErr error) {
	t.Helper()
	if a, b, err := sector.Ends(raw); a != front || b != back || err != wantErr {
		t.Errorf("Ends(%q): %d, %d, %v, want %d, %d, %v", raw, a, b, err, front, back, wantErr)
	}
}

func checkLog(t *testing.T, version, i int, want uint64, wantErr error) {
	t.Helper()
	if got, err := sector.Log(version, i); got != want || err != wantErr {
		t.Errorf("Log(%d, %d): %d, %v, want %d, %v", version, i, got, err, want, wantErr)
	}
}

func checkTear(t *testing.T, old, fresh string, n int, want string, wantErr error) {
	t.Helper()
	if got, err := sector.Tear(old, fresh, n); got != want || err != wantErr {
		t.Errorf("Tear(%q, %q, %d): %q, %v, want %q, %v", old, fresh, n, got, err, want, wantErr)
	}
}

func TestSeal(t *testing.T) {
	one := "\x01" + nothing(7)
	checkSeal(t, 1, "", one+nothing(236)+"\xac\x47\x0e\xdd"+one, nil)
	checkSeal(t, 0x0807060504030201, "ab",
		"\x01\x02\x03\x04\x05\x06\x07\x08"+"\x02\x00"+"ab"+nothing(232)+"\x21\xc3\xbd\x3a"+"\x01\x02\x03\x04\x05\x06\x07\x08", nil)
	full := strings.Repeat("p", 234)
	most := strings.Repeat("\xff", 8)
	checkSeal(t, math.MaxUint64, full, most+"\xea\x00"+full+"\xe5\x40\xb5\x05"+most, nil)
}

func TestSealRefuses(t *testing.T) {
	checkSeal(t, 0, "", "", api.ErrRange)
	checkSeal(t, 0, "x", "", api.ErrRange)
	checkSeal(t, 0, strings.Repeat("p", 235), "", api.ErrRange)
	checkSeal(t, 1, strings.Repeat("p", 235), "", api.ErrLimit)
	checkSeal(t, math.MaxUint64, strings.Repeat("p", 100000), "", api.ErrLimit)
}

func TestOpen(t *testing.T) {
	raw := sealed(t, 1, "ab")
	checkOpen(t, 1, raw, "ab", true)
	checkOpen(t, 2, raw, "", false)
	checkOpen(t, 0, raw, "", false)
	checkOpen(t, math.MaxUint64, raw, "", false)
	checkOpen(t, 1, sealed(t, 1, ""), "", true)
	checkOpen(t, 1, "short", "", false)
	checkOpen(t, 1, "", "", false)
	checkOpen(t, 1, raw+"\x00", "", false)
	checkOpen(t, 1, raw[:255], "", false)
	checkOpen(t, 1, raw+raw, "", false)
	checkOpen(t, 0, zeros, "", false)
	checkOpen(t, 1, zeros, "", false)
}

// TestOpenOfForged asks for sectors that are wrong in one thing, with sums that fit.
func TestOpenOfForged(t *testing.T) {
	good := parts{front: 300, size: 2, room: "ab" + nothing(232), back: 300}
	checkOpen(t, 300, good.raw(), "ab", true)

	p := good
	p.front = 301
	checkOpen(t, 300, p.raw(), "", false)
	checkOpen(t, 301, p.raw(), "", false)
	p = good
	p.back = 301
	checkOpen(t, 300, p.raw(), "", false)
	checkOpen(t, 301, p.raw(), "", false)
	p = good
	p.front, p.back = 0, 0
	checkOpen(t, 0, p.raw(), "", false)
	p = good
	p.size = 1
	checkOpen(t, 300, p.raw(), "", false)
	p.size = 3
	checkOpen(t, 300, p.raw(), "ab\x00", true)
	p.size = 234
	checkOpen(t, 300, p.raw(), p.room, true)
	for _, size := range []int{235, 236, 256, 258, 0x8002, 0xffff} {
		p.size = size
		checkOpen(t, 300, p.raw(), "", false)
	}
	for i := 2; i < 234; i++ {
		p = good
		p.room = p.room[:i] + "\x01" + p.room[i+1:]
		checkOpen(t, 300, p.raw(), "", false)
	}
	p = good
	p.turned = 1 << 31
	checkOpen(t, 300, p.raw(), "", false)
}

func TestEnds(t *testing.T) {
	checkEnds(t, sealed(t, 258, "x"), 258, 258, nil)
	checkEnds(t, sealed(t, math.MaxUint64, "x"), math.MaxUint64, math.MaxUint64, nil)
	checkEnds(t, zeros, 0, 0, nil)
	checkEnds(t, "\x01\x02\x03\x04\x05\x06\x07\x08"+strings.Repeat("\xff", 240)+"\x11\x12\x13\x14\x15\x16\x17\x18",
		0x0807060504030201, 0x1817161514131211, nil)
	for _, size := range []int{0, 1, 8, 16, 255, 257, 512} {
		checkEnds(t, strings.Repeat("x", size), 0, 0, api.ErrForm)
	}
}

func TestLog(t *testing.T) {
	checkLog(t, 1, 0, 1048577, nil)
	checkLog(t, 2, 5, 2097158, nil)
	checkLog(t, 1, 65535, 1048576+65536, nil)
	checkLog(t, 1<<40, 0, 1<<60+1, nil)
	checkLog(t, 1<<40, 65535, 1<<60+65536, nil)
	for _, version := range []int{math.MinInt, -1, 0, 1<<40 + 1, math.MaxInt} {
		checkLog(t, version, 0, 0, api.ErrRange)
		checkLog(t, version, -1, 0, api.ErrRange)
	}
	for _, i := range []int{math.MinInt, -1, 65536, math.MaxInt} {
		checkLog(t, 1, i, 0, api.ErrRange)
		checkLog(t, 1<<40, i, 0, api.ErrRange)
	}
}

func TestTear(t *testing.T) {
	old, fresh := sealed(t, 1, "a"), sealed(t, 258, "b")
	checkTear(t, old, fresh, 0, old, nil)
	checkTear(t, old, fresh, 256, fresh, nil)
	for n := range 257 {
		checkTear(t, strings.Repeat("o", 256), strings.Repeat("f", 256), n, strings.Repeat("f", n)+strings.Repeat("o", 256-n), nil)
	}

	raw := torn(t, old, fresh, 249)
	checkEnds(t, raw, 258, 2, nil)
	for stamp := range uint64(1000) {
		checkOpen(t, stamp, raw, "", false)
	}
	checkTear(t, old, fresh, 250, fresh, nil)
}

func TestTearRefuses(t *testing.T) {
	for _, size := range []int{0, 1, 255, 257, 512} {
		other := strings.Repeat("x", size)
		for _, n := range []int{math.MinInt, -1, 0, 1, size, 256, 257, math.MaxInt} {
			checkTear(t, other, zeros, n, "", api.ErrForm)
			checkTear(t, zeros, other, n, "", api.ErrForm)
			checkTear(t, other, other, n, "", api.ErrForm)
		}
	}
	for _, n := range []int{math.MinInt, -1, 257, math.MaxInt} {
		checkTear(t, zeros, zeros, n, "", api.ErrRange)
	}
}
