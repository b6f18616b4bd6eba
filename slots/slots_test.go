package slots_test

import (
	"math"
	"remit/api"
	"remit/disk"
	"remit/sector"
	"remit/slots"
	"strings"
	"testing"
)

// zeros is a sector on which nothing was written.
var zeros = strings.Repeat("\x00", api.SectorSize)

func made(t *testing.T, n int) *disk.Disk {
	t.Helper()
	d, err := disk.New(n)
	if err != nil {
		t.Fatalf("New(%d): %v", n, err)
	}
	return d
}

// from is a disk of these sectors.
func from(t *testing.T, sectors ...string) *disk.Disk {
	t.Helper()
	d, err := disk.From(strings.Join(sectors, ""))
	if err != nil {
		t.Fatal(err)
	}
	return d
}

func sealed(t *testing.T, stamp uint64, payload string) string {
	t.Helper()
	raw, err := sector.Seal(stamp, payload)
	if err != nil {
		t.Fatalf("Seal(%d, %q): %v", stamp, payload, err)
	}
	return raw
}

func checkRead(t *testing.T, d *disk.Disk, at int, want string, version int, wantErr error) {
	t.Helper()
	if got, v, err := slots.Read(d, at); got != want || v != version || err != wantErr {
		t.Errorf("Read at %d: %q, %d, %v, want %q, %d, %v", at, got, v, err, want, version, wantErr)
	}
}

func checkWrite(t *testing.T, d *disk.Disk, at, version int, value string, want error) {
	t.Helper()
	if err := slots.Write(d, at, version, value); err != want {
		t.Errorf("Write at %d of version %d, %.10q of %d: %v, want %v", at, version, value, len(value), err, want)
	}
}

func checkImage(t *testing.T, d *disk.Disk, sectors ...string) {
	t.Helper()
	if got := d.Image(); got != strings.Join(sectors, "") {
		t.Errorf("Image: %q, want %q", got, sectors)
	}
}

func checkCounts(t *testing.T, d *disk.Disk, writes, flushes, pending int) {
	t.Helper()
	if w, f := d.Counts(); w != writes || f != flushes || d.Pending() != pending {
		t.Errorf("%d writes, %d flushes, %d under way, want %d, %d, %d", w, f, d.Pending(), writes, flushes, pending)
	}
}

// checkOfRange asks Write of a version that may be, at a place that may not be, and of both the other way round.
func checkOfRange(t *testing.T, d *disk.Disk, at int) {
	t.Helper()
	checkRead(t, d, at, "", 0, api.ErrRange)
	for _, version := range []int{math.MinInt, 0, 1, 2, 1 << 40, 1<<40 + 1} {
		checkWrite(t, d, at, version, "a", api.ErrRange)
		checkWrite(t, d, at, version, strings.Repeat("x", 235), api.ErrRange)
	}
}

func TestExamples(t *testing.T) {
	d := made(t, 4)
	checkRead(t, d, 1, "", 0, api.ErrBlank)
	checkWrite(t, d, 1, 1, "a", nil)
	checkImage(t, d, zeros, zeros, sealed(t, 1, "a"), zeros)
	checkRead(t, d, 1, "a", 1, nil)
	checkWrite(t, d, 1, 2, "b", nil)
	checkImage(t, d, zeros, sealed(t, 2, "b"), sealed(t, 1, "a"), zeros)
	checkRead(t, d, 1, "b", 2, nil)
	for n := -1; n <= 257; n++ {
		e := from(t, d.Image())
		e.Arm(1)
		checkWrite(t, e, 1, 3, "c", api.ErrDown)
		checkRead(t, e, 1, "", 0, api.ErrDown)
		e.Crash(api.Fate{Torn: 0, Bytes: n})
		// Behind the stamps' low bytes both sectors' last seven bytes are zeros.
		if n < 249 {
			checkRead(t, e, 1, "b", 2, nil)
		} else {
			checkRead(t, e, 1, "c", 3, nil)
		}
	}
	checkOfRange(t, d, 3)
	checkOfRange(t, d, -1)
	checkWrite(t, d, 1, 0, "a", api.ErrRange)
	checkWrite(t, d, 1, 1<<40+1, "a", api.ErrRange)
	checkWrite(t, d, 1, 3, strings.Repeat("x", 235), api.ErrLimit)
	checkWrite(t, d, 1, 0, strings.Repeat("x", 235), api.ErrRange)
	checkImage(t, d, zeros, sealed(t, 2, "b"), sealed(t, 1, "a"), zeros)
	checkCounts(t, d, 2, 2, 0)
}

func TestBytesOfASlot(t *testing.T) {
	d := made(t, 2)
	checkWrite(t, d, 0, 1, "", nil)
	one := "\x01" + strings.Repeat("\x00", 7)
	checkImage(t, d, zeros, one+strings.Repeat("\x00", 236)+"\xac\x47\x0e\xdd"+one)
}

// TestPlaces asks for disks of all small sizes and of the greatest.
func TestPlaces(t *testing.T) {
	for _, size := range []int{1, 2, 3, 4, 5, api.MinSectors, api.MaxSectors} {
		d := made(t, size)
		for _, at := range []int{math.MinInt, -2, -1, size - 1, size, size + 1, math.MaxInt - 1, math.MaxInt} {
			checkOfRange(t, d, at)
		}
		for at := 0; at <= size-2; at += max(1, (size-2)/5) {
			checkRead(t, d, at, "", 0, api.ErrBlank)
			checkWrite(t, d, at, 7, "odd", nil)
			checkRead(t, d, at, "odd", 7, nil)
			checkWrite(t, d, at, 8, "even", nil)
			checkRead(t, d, at, "even", 8, nil)
			e := from(t, d.Image()[at*api.SectorSize:(at+2)*api.SectorSize])
			checkImage(t, e, sealed(t, 8, "even"), sealed(t, 7, "odd"))
			checkRead(t, e, 0, "even", 8, nil)
		}
	}
}

func TestVersionsAndValues(t *testing.T) {
	values := []string{"", "a", "\x00", "ab\x00", "\xff\xfe", strings.Repeat("\x00", 234), strings.Repeat("x", 234), strings.Repeat("x", 233)}
	for _, version := range []int{1, 2, 3, 255, 256, 257, 65535, 65536, 1<<32 - 1, 1 << 32, 1<<32 + 1, 1<<40 - 1, 1 << 40} {
		for _, value := range values {
			d := made(t, 3)
			checkWrite(t, d, 0, version, value, nil)
			checkRead(t, d, 0, value, version, nil)
			want := []string{zeros, zeros, zeros}
			want[version%2] = sealed(t, uint64(version), value)
			checkImage(t, d, want...)
		}
		for _, size := range []int{235, 256, 1000, 100000} {
			checkWrite(t, made(t, 3), 0, version, strings.Repeat("x", size), api.ErrLimit)
		}
	}
	for _, version := range []int{math.MinInt, math.MinInt + 1, -(1 << 40), -2, -1, 0, 1<<40 + 1, 1<<40 + 2, 1 << 41, math.MaxInt - 1, math.MaxInt} {
		d := made(t, 3)
		for _, value := range append(values, strings.Repeat("x", 235)) {
			checkWrite(t, d, 0, version, value, api.ErrRange)
		}
		checkImage(t, d, zeros, zeros, zeros)
		checkCounts(t, d, 0, 0, 0)
	}
}

// TestGreaterCounts asks for any order in which two versions are written: the other slot isn't looked at.
func TestGreaterCounts(t *testing.T) {
	for _, x := range []struct{ first, second, want int }{
		{1, 2, 2}, {2, 1, 2}, {2, 3, 3}, {3, 2, 3}, {255, 256, 256}, {256, 255, 256}, {1, 1 << 40, 1 << 40}, {1 << 40, 1, 1 << 40},
		{2, 1 << 32, 1 << 32}, {1 << 32, 2, 2}, {1<<32 + 1, 4, 1<<32 + 1}, {5, 5, 5}, {4, 2, 2}, {9, 3, 3}, {256, 1, 256}, {1, 256, 256},
	} {
		d := made(t, 2)
		checkWrite(t, d, 0, x.first, "first", nil)
		checkWrite(t, d, 0, x.second, "second", nil)
		want := "first"
		if x.want == x.second {
			want = "second"
		}
		checkRead(t, d, 0, want, x.want, nil)
		checkCounts(t, d, 2, 2, 0)
	}
}

// TestWhichSlotsCount asks for sectors that are wrong in one thing.
func TestWhichSlotsCount(t *testing.T) {
	good := sealed(t, 5, "good")
	for _, stamp := range []uint64{1, 3, 7, 257, 1<<40 - 1} {
		checkRead(t, from(t, zeros, sealed(t, stamp, "x")), 0, "x", int(stamp), nil)
		checkRead(t, from(t, sealed(t, stamp, "x"), zeros), 0, "", 0, api.ErrBlank)
		checkRead(t, from(t, sealed(t, stamp, "x"), good), 0, "good", 5, nil)
	}
	for _, stamp := range []uint64{2, 4, 6, 256, 1 << 40} {
		checkRead(t, from(t, sealed(t, stamp, "x"), zeros), 0, "x", int(stamp), nil)
		checkRead(t, from(t, zeros, sealed(t, stamp, "x")), 0, "", 0, api.ErrBlank)
	}
	for _, stamp := range []uint64{1<<40 + 1, 1<<40 + 2, 1 << 41, 1<<41 + 1, 1 << 63, 1<<63 + 1, 1<<63 + 2, math.MaxUint64 - 1, math.MaxUint64} {
		raw := sealed(t, stamp, "x")
		checkRead(t, from(t, raw, raw), 0, "", 0, api.ErrBlank)
		checkRead(t, from(t, raw, good), 0, "good", 5, nil)
	}
	// Ends that are one number make no slot by themselves.
	for _, raw := range []string{zeros, strings.Repeat("\x01", 256), zeros[:8] + good[8:248] + zeros[:8]} {
		checkRead(t, from(t, raw, raw), 0, "", 0, api.ErrBlank)
	}
	for i := range len(good) {
		for bit := range 8 {
			turned := good[:i] + string([]byte{good[i] ^ 1<<bit}) + good[i+1:]
			checkRead(t, from(t, zeros, turned), 0, "", 0, api.ErrBlank)
			checkRead(t, from(t, turned, zeros), 0, "", 0, api.ErrBlank)
			checkRead(t, from(t, sealed(t, 2, "other"), turned), 0, "other", 2, nil)
		}
	}
	checkRead(t, from(t, sealed(t, 6, "x")[:8]+sealed(t, 4, "x")[8:], good), 0, "good", 5, nil)
	checkRead(t, from(t, sealed(t, 4, "x")[:248]+sealed(t, 6, "x")[248:], sealed(t, 3, "y")), 0, "y", 3, nil)
}

// TestNewestIsRead asks for what is under way: Read tells of it, and leaves it so.
func TestNewestIsRead(t *testing.T) {
	d := from(t, sealed(t, 2, "two"), sealed(t, 3, "three"))
	if err := d.Write(0, sealed(t, 4, "four")); err != nil {
		t.Fatal(err)
	}
	checkRead(t, d, 0, "four", 4, nil)
	checkRead(t, d, 0, "four", 4, nil)
	checkCounts(t, d, 1, 0, 1)
	checkImage(t, d, sealed(t, 2, "two"), sealed(t, 3, "three"))
	d.Crash(api.Fate{Torn: -1})
	checkRead(t, d, 0, "three", 3, nil)
}

// TestPowerGoes asks for the power that goes at the write, at the flush, and just behind both.
func TestPowerGoes(t *testing.T) {
	old, fresh := sealed(t, 1, "old"), sealed(t, 3, "fresh")
	d := from(t, zeros, old, zeros)
	d.Arm(0)
	checkWrite(t, d, 0, 3, "fresh", api.ErrDown)
	checkCounts(t, d, 0, 0, 1)
	checkImage(t, d, zeros, old, zeros)
	d.Crash(api.Fate{Torn: -1})
	checkRead(t, d, 0, "old", 1, nil)

	d.Arm(1)
	checkWrite(t, d, 0, 3, "fresh", api.ErrDown)
	checkCounts(t, d, 1, 0, 1)
	checkImage(t, d, zeros, old, zeros)
	d.Crash(api.Fate{Kept: []bool{true}, Torn: -1})
	checkImage(t, d, zeros, fresh, zeros)
	checkRead(t, d, 0, "fresh", 3, nil)

	d.Arm(2)
	checkRead(t, d, 0, "fresh", 3, nil)
	checkWrite(t, d, 0, 4, "next", nil)
	checkCounts(t, d, 2, 1, 0)
	checkImage(t, d, sealed(t, 4, "next"), fresh, zeros)
	checkWrite(t, d, 0, 5, "none", api.ErrDown)
	checkCounts(t, d, 2, 1, 1)
}

// TestPowerIsOff asks which error comes first, and that nothing is under way then.
func TestPowerIsOff(t *testing.T) {
	d := made(t, 3)
	checkWrite(t, d, 0, 1, "a", nil)
	d.Arm(0)
	if err := d.Flush(); err != api.ErrDown {
		t.Fatal(err)
	}
	for _, at := range []int{-1, 2, 3} {
		checkOfRange(t, d, at)
	}
	for _, at := range []int{0, 1} {
		checkRead(t, d, at, "", 0, api.ErrDown)
		checkWrite(t, d, at, 2, "b", api.ErrDown)
		checkWrite(t, d, at, 2, strings.Repeat("x", 235), api.ErrLimit)
		checkWrite(t, d, at, 0, strings.Repeat("x", 235), api.ErrRange)
		checkWrite(t, d, at, 1<<40+1, "b", api.ErrRange)
	}
	checkCounts(t, d, 1, 1, 0)
	d.Crash(api.Fate{Kept: []bool{true, true}, Torn: -1})
	checkRead(t, d, 0, "a", 1, nil)
	checkImage(t, d, zeros, sealed(t, 1, "a"), zeros)
}

// TestRefusedDoesNothing asks for an armed count and a write under way that refused calls leave as they are.
func TestRefusedDoesNothing(t *testing.T) {
	d := made(t, 3)
	if err := d.Write(2, strings.Repeat("w", 256)); err != nil {
		t.Fatal(err)
	}
	d.Arm(0)
	checkOfRange(t, d, 2)
	checkWrite(t, d, 0, 1, strings.Repeat("x", 235), api.ErrLimit)
	checkRead(t, d, 0, "", 0, api.ErrBlank)
	checkCounts(t, d, 1, 0, 1)
	checkImage(t, d, zeros, zeros, zeros)
	if d.Off() {
		t.Error("the power is off")
	}
	checkWrite(t, d, 0, 1, "a", api.ErrDown)
}

// TestOtherWritesAreFlushed asks for the one flush: it makes durable what is under way elsewhere too.
func TestOtherWritesAreFlushed(t *testing.T) {
	d := made(t, 3)
	other := strings.Repeat("w", 256)
	if err := d.Write(2, other); err != nil {
		t.Fatal(err)
	}
	checkWrite(t, d, 0, 2, "a", nil)
	checkImage(t, d, sealed(t, 2, "a"), zeros, other)
	checkCounts(t, d, 2, 1, 0)
}
