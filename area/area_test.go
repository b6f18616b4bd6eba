package area_test

import (
	"math"
	"remit/api"
	"remit/area"
	"remit/disk"
	"remit/sector"
	"strings"
	"testing"
)

// zeros is a sector on which nothing was written.
var zeros = strings.Repeat("\x00", api.SectorSize)

func made(t *testing.T, n int) *disk.Disk {
	t.Helper()
	d, err := disk.New(n)
	if err != nil {
		t.Fatalf("New(%d): %v", n, err)
	}
	return d
}

// from is a disk of these sectors.
func from(t *testing.T, sectors ...string) *disk.Disk {
	t.Helper()
	d, err := disk.From(strings.Join(sectors, ""))
	if err != nil {
		t.Fatal(err)
	}
	return d
}

func sealed(t *testing.T, stamp uint64, payload string) string {
	t.Helper()
	raw, err := sector.Seal(stamp, payload)
	if err != nil {
		t.Fatalf("Seal(%d, %q): %v", stamp, payload, err)
	}
	return raw
}

// text is so many bytes, of which no two pieces are alike.
func text(size int) string {
	raw := make([]byte, size)
	for i := range raw {
		raw[i] = byte(i*7 + i/234*31 + i/65536)
	}
	return string(raw)
}

func checkRead(t *testing.T, d *disk.Disk, at, n int, stamp uint64, bytes int, want string, wantErr error) {
	t.Helper()
	if got, err := area.Read(d, at, n, stamp, bytes); got != want || err != wantErr {
		t.Errorf("Read at %d, %d sectors, stamp %d, %d bytes: %.20q of %d, %v, want %.20q of %d, %v", at, n, stamp, bytes, got, len(got), err, want, len(want), wantErr)
	}
}

func checkWrite(t *testing.T, d *disk.Disk, at, n int, stamp uint64, value string, want error) {
	t.Helper()
	if err := area.Write(d, at, n, stamp, value); err != want {
		t.Errorf("Write at %d, %d sectors, stamp %d, %.10q of %d: %v, want %v", at, n, stamp, value, len(value), err, want)
	}
}

func checkImage(t *testing.T, d *disk.Disk, sectors ...string) {
	t.Helper()
	if got := d.Image(); got != strings.Join(sectors, "") {
		t.Errorf("Image: %q, want %q", got, sectors)
	}
}

func checkCounts(t *testing.T, d *disk.Disk, writes, flushes, pending int) {
	t.Helper()
	if w, f := d.Counts(); w != writes || f != flushes || d.Pending() != pending {
		t.Errorf("%d writes, %d flushes, %d under way, want %d, %d, %d", w, f, d.Pending(), writes, flushes, pending)
	}
}

// checkOfRange asks Read and Write of what is of range, beside sizes and stamps that may be and some that may not.
func checkOfRange(t *testing.T, d *disk.Disk, at, n int) {
	t.Helper()
	for _, stamp := range []uint64{0, 1, 9, math.MaxUint64} {
		for _, size := range []int{math.MinInt, -1, 0, 1, 234, 469, 234 * 65536, math.MaxInt} {
			checkRead(t, d, at, n, stamp, size, "", api.ErrRange)
		}
		for _, size := range []int{0, 1, 234, 469, 10000} {
			checkWrite(t, d, at, n, stamp, text(size), api.ErrRange)
		}
	}
}

func TestRoom(t *testing.T) {
	for n, want := range map[int]int{
		math.MinInt: 0, math.MinInt / 234: 0, -2: 0, -1: 0, 0: 0, 1: 234, 2: 468, 3: 702, 65535: 15335190, 65536: 15335424,
		65537: 15335424, math.MaxInt / 234: 15335424, math.MaxInt/234 + 1: 15335424, math.MaxInt - 1: 15335424, math.MaxInt: 15335424,
	} {
		if got := area.Room(n); got != want {
			t.Errorf("Room(%d) = %d, want %d", n, got, want)
		}
	}
}

// TestSectors asks for the least number of sectors whose room is enough, by going up one byte at a time.
func TestSectors(t *testing.T) {
	want := 0
	for bytes := range 200000 {
		if area.Room(want) < bytes {
			want++
		}
		if got := area.Sectors(bytes); got != want {
			t.Fatalf("Sectors(%d) = %d, want %d", bytes, got, want)
		}
	}
	const most = math.MaxInt
	for bytes, want := range map[int]int{
		math.MinInt: 0, math.MinInt + 1: 0, -235: 0, -234: 0, -1: 0, 0: 0, 1: 1, 234: 1, 235: 2, 468: 2, 469: 3,
		234*65536 - 233: 65536, 234 * 65536: 65536, 234*65536 + 1: 65537,
		most/234*234 - 1: most / 234, most / 234 * 234: most / 234, most/234*234 + 1: most/234 + 1, most - 1: most/234 + 1, most: most/234 + 1,
	} {
		if got := area.Sectors(bytes); got != want {
			t.Errorf("Sectors(%d) = %d, want %d", bytes, got, want)
		}
	}
}

func TestExamples(t *testing.T) {
	d, value := made(t, 8), text(235)
	checkWrite(t, d, 4, 2, 9, value, nil)
	checkImage(t, d, zeros, zeros, zeros, zeros, sealed(t, 9, value[:234]), sealed(t, 9, value[234:]), zeros, zeros)
	checkCounts(t, d, 2, 1, 0)
	checkRead(t, d, 4, 2, 9, 235, value, nil)
	checkRead(t, d, 4, 2, 8, 235, "", api.ErrCorrupt)
	checkRead(t, d, 4, 2, 9, 234, value[:234], nil)
	checkRead(t, d, 4, 2, 9, 236, "", api.ErrCorrupt)
	checkRead(t, d, 4, 2, 9, 469, "", api.ErrLimit)
	checkWrite(t, d, 4, 2, 10, text(469), api.ErrLimit)
	checkCounts(t, d, 2, 1, 0)
	checkWrite(t, d, 0, 0, 9, "", nil)
	checkCounts(t, d, 2, 2, 0)
	checkRead(t, d, 0, 0, 9, 0, "", nil)
}

// TestPlaces asks for disks of all small sizes and of the greatest, and for places that end at the disk's end and one behind it.
func TestPlaces(t *testing.T) {
	for _, size := range []int{1, 2, 3, 5, api.MinSectors, api.MaxSectors} {
		d := made(t, size)
		for _, place := range [][2]int{
			{-1, 0}, {-1, 1}, {-1, size + 1}, {math.MinInt, 0}, {math.MinInt, 1}, {math.MinInt, math.MaxInt}, {0, -1}, {1, -1}, {size, -1}, {0, math.MinInt}, {math.MaxInt, math.MinInt},
			{0, size + 1}, {1, size}, {size - 1, 2}, {size, 1}, {size + 1, 0}, {size + 1, -1}, {size + 1, -size}, {0, math.MaxInt}, {1, math.MaxInt}, {math.MaxInt, 0}, {math.MaxInt, 1}, {math.MaxInt, math.MaxInt}, {1 << 62, 1 << 62}, {-1, math.MaxInt}, {math.MinInt, math.MinInt},
		} {
			checkOfRange(t, d, place[0], place[1])
		}
		checkCounts(t, d, 0, 0, 0)
		stamp := uint64(0)
		for at := 0; at <= size; at += max(1, size/5) {
			for _, n := range []int{0, 1, size - at} {
				if n > size-at {
					continue
				}
				stamp++
				value := text(min(n*234, 5000))
				checkWrite(t, d, at, n, stamp, value, nil)
				checkRead(t, d, at, n, stamp, len(value), value, nil)
				checkWrite(t, d, at, n, stamp, text(n*234+1), api.ErrLimit)
				checkRead(t, d, at, n, stamp, n*234+1, "", api.ErrLimit)
				// What the place is said to have beyond the value hangs on nothing.
				checkRead(t, d, at, size-at, stamp, len(value), value, nil)
			}
		}
	}
}

// TestWholeDisk asks for the greatest value of all.
func TestWholeDisk(t *testing.T) {
	d, value := made(t, api.MaxSectors), text(234*65536)
	checkWrite(t, d, 0, 65536, 5, value+"x", api.ErrLimit)
	checkCounts(t, d, 0, 0, 0)
	checkWrite(t, d, 0, 65536, 5, value, nil)
	checkCounts(t, d, 65536, 1, 0)
	checkRead(t, d, 0, 65536, 5, len(value), value, nil)
	checkRead(t, d, 0, 65536, 5, len(value)+1, "", api.ErrLimit)
	checkRead(t, d, 0, 65536, 5, len(value)-1, "", api.ErrCorrupt)
	checkRead(t, d, 65535, 1, 5, 234, value[234*65535:], nil)
}

// TestLengths asks for values of all lengths about the ends of pieces, each read as if it were of each other length.
func TestLengths(t *testing.T) {
	lengths := []int{0, 1, 2, 100, 233, 234, 235, 236, 300, 467, 468, 469, 470, 701, 702, 703, 704, 935, 936}
	for _, size := range lengths {
		d, value := made(t, 6), text(size)
		checkWrite(t, d, 1, 4, 300, value, nil)
		checkCounts(t, d, (size+233)/234, 1, 0)
		for _, bytes := range lengths {
			switch {
			case bytes == size, bytes < size && bytes%234 == 0:
				checkRead(t, d, 1, 4, 300, bytes, value[:bytes], nil)
			default:
				checkRead(t, d, 1, 4, 300, bytes, "", api.ErrCorrupt)
			}
		}
		for _, bytes := range []int{937, 938, 10000, math.MaxInt} {
			checkRead(t, d, 1, 4, 300, bytes, "", api.ErrLimit)
		}
		for _, bytes := range []int{-1, -234, -235, math.MinInt} {
			checkRead(t, d, 1, 4, 300, bytes, "", api.ErrRange)
		}
	}
}

// TestBytesOfAnArea asks for the sectors, byte for byte, whatever stands in the value.
func TestBytesOfAnArea(t *testing.T) {
	for _, value := range []string{"", "\x00", strings.Repeat("\x00", 234), strings.Repeat("\x00", 300), strings.Repeat("\xff", 500), "\xff\xfe\x80" + text(465), text(702)} {
		d := from(t, strings.Repeat("w", 256), zeros, strings.Repeat("x", 256), sealed(t, 7, "seven"), strings.Repeat("y", 256))
		want := []string{strings.Repeat("w", 256), zeros, strings.Repeat("x", 256), sealed(t, 7, "seven"), strings.Repeat("y", 256)}
		for i, rest := 1, value; rest != ""; i++ {
			piece := rest[:min(len(rest), 234)]
			want[i], rest = sealed(t, 8, piece), rest[len(piece):]
		}
		checkWrite(t, d, 1, 3, 8, value, nil)
		// What stands behind the value stays, in the place and beyond it.
		checkImage(t, d, want...)
	}
	d := made(t, 2)
	checkWrite(t, d, 0, 2, 1, strings.Repeat("\x00", 234), nil)
	if raw := d.Image(); raw[:10] != "\x01\x00\x00\x00\x00\x00\x00\x00\xea\x00" || raw[248:] != "\x01\x00\x00\x00\x00\x00\x00\x00"+zeros {
		t.Errorf("Image: %q", raw)
	}
}

// TestStamps asks for stamps about the ends of bytes: each reads what was written under it, and no other does.
func TestStamps(t *testing.T) {
	stamps := []uint64{1, 2, 255, 256, 257, 65535, 65536, 1<<32 - 1, 1 << 32, 1 << 40, 1<<40 + 1, 1<<63 - 1, 1 << 63, math.MaxUint64 - 1, math.MaxUint64}
	for _, written := range stamps {
		d, value := made(t, 3), text(500)
		checkWrite(t, d, 0, 3, written, value, nil)
		for _, stamp := range stamps {
			if stamp == written {
				checkRead(t, d, 0, 3, stamp, 500, value, nil)
			} else {
				checkRead(t, d, 0, 3, stamp, 500, "", api.ErrCorrupt)
				checkRead(t, d, 0, 3, stamp, 234, "", api.ErrCorrupt)
				checkRead(t, d, 0, 3, stamp, 0, "", nil)
			}
		}
		checkRead(t, d, 0, 3, 0, 500, "", api.ErrRange)
		checkRead(t, d, 0, 3, 0, 0, "", api.ErrRange)
		checkWrite(t, d, 0, 3, 0, value, api.ErrRange)
		checkWrite(t, d, 0, 3, 0, "", api.ErrRange)
		checkCounts(t, d, 3, 1, 0)
	}
}

// TestLowerStampIsWritten asks for stamps that fall: what was written last stands, whatever its stamp.
func TestLowerStampIsWritten(t *testing.T) {
	d := made(t, 3)
	checkWrite(t, d, 0, 3, 9, text(702), nil)
	checkWrite(t, d, 0, 3, 4, text(300), nil)
	checkRead(t, d, 0, 3, 4, 300, text(300), nil)
	checkRead(t, d, 0, 3, 9, 702, "", api.ErrCorrupt)
	checkRead(t, d, 2, 1, 9, 234, text(702)[468:], nil)
}

// TestOneWrongSector asks for areas of which one sector is wrong in one thing.
func TestOneWrongSector(t *testing.T) {
	value := text(500)
	good := []string{sealed(t, 9, value[:234]), sealed(t, 9, value[234:468]), sealed(t, 9, value[468:])}
	for i, raw := range good {
		wrong := []string{zeros, strings.Repeat("\x09", 256), sealed(t, 8, "x"), sealed(t, 10, value[:234]), sealed(t, 9+256, value[:234]), sealed(t, 9, ""), sealed(t, 9, value[:31]), sealed(t, 9, value[:33]), sealed(t, 9, value[:233]), raw[:8] + zeros[8:], zeros[:8] + raw[8:], raw[:248] + zeros[248:]}
		for k := range raw {
			wrong = append(wrong, raw[:k]+string([]byte{raw[k] ^ 1<<(k%8)})+raw[k+1:])
		}
		for _, w := range wrong {
			sectors := append([]string{}, good...)
			sectors[i] = w
			d := from(t, sectors...)
			checkRead(t, d, 0, 3, 9, 500, "", api.ErrCorrupt)
			// The sectors behind those that are asked for aren't looked at.
			checkRead(t, d, 0, 3, 9, i*234, value[:i*234], nil)
		}
		// A sector that counts and has the right length is the piece, whatever it tells.
		sectors := append([]string{}, good...)
		sectors[i] = sealed(t, 9, strings.Repeat("z", min(234, 500-i*234)))
		want := value[:i*234] + strings.Repeat("z", min(234, 500-i*234)) + value[min(500, i*234+234):]
		checkRead(t, from(t, sectors...), 0, 3, 9, 500, want, nil)
	}
}

// TestLengthsOfPieces asks for pieces that come to the right length in all, but not each by itself.
func TestLengthsOfPieces(t *testing.T) {
	for _, x := range []struct{ first, second int }{{233, 2}, {1, 234}, {117, 118}, {232, 3}, {0, 235 - 1}} {
		d := from(t, sealed(t, 3, text(x.first)), sealed(t, 3, text(x.second)))
		checkRead(t, d, 0, 2, 3, x.first+x.second, "", api.ErrCorrupt)
		checkRead(t, d, 0, 2, 3, 235, "", api.ErrCorrupt)
		checkRead(t, d, 0, 2, 3, 234, "", api.ErrCorrupt)
		checkRead(t, d, 1, 1, 3, x.second, text(x.second), nil)
	}
	// An empty piece is none: it is never asked for.
	d := from(t, sealed(t, 3, text(234)), sealed(t, 3, ""))
	checkRead(t, d, 0, 2, 3, 234, text(234), nil)
	checkRead(t, d, 0, 2, 3, 235, "", api.ErrCorrupt)
	checkRead(t, d, 1, 1, 3, 0, "", nil)
}

// TestNewestIsRead asks for what is under way: Read tells of it, and leaves it so.
func TestNewestIsRead(t *testing.T) {
	value := text(300)
	d := from(t, sealed(t, 3, value[:234]), zeros)
	if err := d.Write(1, sealed(t, 3, value[234:])); err != nil {
		t.Fatal(err)
	}
	checkRead(t, d, 0, 2, 3, 300, value, nil)
	checkRead(t, d, 0, 2, 3, 300, value, nil)
	checkCounts(t, d, 1, 0, 1)
	checkImage(t, d, sealed(t, 3, value[:234]), zeros)
	d.Crash(api.Fate{Torn: -1})
	checkRead(t, d, 0, 2, 3, 300, "", api.ErrCorrupt)
}

// TestPowerGoes asks for the power that goes at each write, at the flush, and just behind it.
func TestPowerGoes(t *testing.T) {
	value := text(600)
	fresh := []string{sealed(t, 9, value[:234]), sealed(t, 9, value[234:468]), sealed(t, 9, value[468:])}
	for arm := range 4 {
		d := made(t, 5)
		d.Arm(arm)
		checkWrite(t, d, 1, 4, 9, value, api.ErrDown)
		// A write at which the power goes is under way, and none comes behind it.
		under := min(arm+1, 3)
		checkCounts(t, d, min(arm, 3), 0, under)
		checkImage(t, d, zeros, zeros, zeros, zeros, zeros)
		checkRead(t, d, 1, 4, 9, 600, "", api.ErrDown)
		d.Crash(api.Fate{Kept: []bool{true, true, true}, Torn: -1})
		sectors := []string{zeros, zeros, zeros, zeros, zeros}
		copy(sectors[1:], fresh[:under])
		checkImage(t, d, sectors...)
		want, wantErr := "", api.ErrCorrupt
		if under == 3 {
			want, wantErr = value, nil
		}
		checkRead(t, d, 1, 4, 9, 600, want, wantErr)
	}
	d := made(t, 5)
	d.Arm(4)
	checkWrite(t, d, 1, 4, 9, value, nil)
	checkCounts(t, d, 3, 1, 0)
	checkRead(t, d, 1, 4, 9, 600, value, nil)
	checkWrite(t, d, 0, 0, 9, "", api.ErrDown)
	checkCounts(t, d, 3, 1, 0)
}

// TestPowerIsOff asks which error comes first, and that nothing is under way then.
func TestPowerIsOff(t *testing.T) {
	d := made(t, 3)
	checkWrite(t, d, 0, 3, 1, text(500), nil)
	d.Arm(0)
	if err := d.Flush(); err != api.ErrDown {
		t.Fatal(err)
	}
	checkOfRange(t, d, -1, 1)
	checkOfRange(t, d, 1, 3)
	for _, n := range []int{0, 1, 3} {
		checkRead(t, d, 0, n, 1, n*234, "", api.ErrDown)
		checkRead(t, d, 0, n, 1, 0, "", api.ErrDown)
		checkRead(t, d, 0, n, 1, n*234+1, "", api.ErrLimit)
		checkRead(t, d, 0, n, 0, n*234+1, "", api.ErrRange)
		checkRead(t, d, 0, n, 1, -1, "", api.ErrRange)
		checkWrite(t, d, 0, n, 2, text(n*234), api.ErrDown)
		checkWrite(t, d, 0, n, 2, "", api.ErrDown)
		checkWrite(t, d, 0, n, 2, text(n*234+1), api.ErrLimit)
		checkWrite(t, d, 0, n, 0, text(n*234+1), api.ErrRange)
	}
	checkRead(t, d, 0, 3, 2, 500, "", api.ErrDown)
	checkCounts(t, d, 3, 1, 0)
	d.Crash(api.Fate{Kept: []bool{true, true, true}, Torn: -1})
	checkRead(t, d, 0, 3, 1, 500, text(500), nil)
}

// TestRefusedDoesNothing asks for an armed count and a write under way that refused calls leave as they are.
func TestRefusedDoesNothing(t *testing.T) {
	d := made(t, 4)
	checkWrite(t, d, 0, 2, 3, text(300), nil)
	image := d.Image()
	if err := d.Write(3, strings.Repeat("w", 256)); err != nil {
		t.Fatal(err)
	}
	d.Arm(0)
	checkOfRange(t, d, 3, 2)
	checkOfRange(t, d, -1, 2)
	checkOfRange(t, d, 0, -1)
	checkWrite(t, d, 0, 2, 0, text(300), api.ErrRange)
	checkWrite(t, d, 0, 2, 4, text(469), api.ErrLimit)
	checkWrite(t, d, 0, 0, 4, "x", api.ErrLimit)
	checkRead(t, d, 0, 2, 4, 300, "", api.ErrCorrupt)
	checkRead(t, d, 0, 2, 3, 300, text(300), nil)
	checkCounts(t, d, 3, 1, 1)
	checkImage(t, d, image)
	if d.Off() {
		t.Error("the power is off")
	}
	checkWrite(t, d, 0, 2, 4, text(300), api.ErrDown)
	checkCounts(t, d, 3, 1, 2)
}

// TestOthersAreFlushed asks for the one flush: it makes durable what is under way elsewhere too, though the value be empty.
func TestOthersAreFlushed(t *testing.T) {
	for _, value := range []string{"", "a", text(400)} {
		d, other := made(t, 4), strings.Repeat("w", 256)
		if err := d.Write(3, other); err != nil {
			t.Fatal(err)
		}
		checkWrite(t, d, 0, 2, 2, value, nil)
		writes := (len(value) + 233) / 234
		checkCounts(t, d, 1+writes, 1, 0)
		if got := d.Image()[3*256:]; got != other {
			t.Errorf("sector 3: %q", got)
		}
		checkRead(t, d, 0, 2, 2, len(value), value, nil)
	}
}

// TestShorterOverLonger asks for a shorter value over a longer one: what is left of that one counts under its own stamp alone.
func TestShorterOverLonger(t *testing.T) {
	d := made(t, 3)
	checkWrite(t, d, 0, 3, 1, text(702), nil)
	checkWrite(t, d, 0, 3, 2, "short", nil)
	checkImage(t, d, sealed(t, 2, "short"), sealed(t, 1, text(702)[234:468]), sealed(t, 1, text(702)[468:]))
	checkRead(t, d, 0, 3, 2, 5, "short", nil)
	checkRead(t, d, 0, 3, 1, 702, "", api.ErrCorrupt)
	checkRead(t, d, 1, 2, 1, 468, text(702)[234:], nil)
	checkWrite(t, d, 0, 3, 3, "", nil)
	checkRead(t, d, 0, 3, 2, 5, "short", nil)
	checkRead(t, d, 0, 3, 3, 0, "", nil)
	checkRead(t, d, 0, 3, 3, 5, "", api.ErrCorrupt)
}
