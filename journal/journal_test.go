package journal_test

import (
	"math"
	"math/big"
	"remit/api"
	"remit/disk"
	"remit/journal"
	"remit/sector"
	"slices"
	"strings"
	"testing"
)

// zeros is a sector on which nothing was written.
var zeros = strings.Repeat("\x00", api.SectorSize)

// edges are lengths of records about the ends of their sectors, and some between.
var edges = []int{0, 1, 2, 100, 228, 229, 230, 231, 233, 234, 235, 300, 461, 462, 463, 464, 694, 695, 696, 697, 928, 929}

func made(t *testing.T, n int) *disk.Disk {
	t.Helper()
	d, err := disk.New(n)
	if err != nil {
		t.Fatalf("New(%d): %v", n, err)
	}
	return d
}

// from is a disk of these sectors.
func from(t *testing.T, sectors ...string) *disk.Disk {
	t.Helper()
	d, err := disk.From(strings.Join(sectors, ""))
	if err != nil {
		t.Fatal(err)
	}
	return d
}

func begun(t *testing.T, d *disk.Disk, at, n, version int) *journal.Journal {
	t.Helper()
	j, err := journal.Begin(d, at, n, version)
	if err != nil || j == nil {
		t.Fatalf("Begin at %d, %d sectors, version %d: %v", at, n, version, err)
	}
	return j
}

func sealed(t *testing.T, stamp uint64, payload string) string {
	t.Helper()
	raw, err := sector.Seal(stamp, payload)
	if err != nil {
		t.Fatalf("Seal(%d, %.10q of %d): %v", stamp, payload, len(payload), err)
	}
	return raw
}

// stampOf says the stamp of a log's sector.
func stampOf(version, i int) uint64 { return uint64(version)<<20 + uint64(i) + 1 }

// four is a number as four bytes, the low one first.
func four(x int) string {
	return string([]byte{byte(x), byte(x / 256), byte(x / 65536), byte(x / 65536 / 256)})
}

// payloads are those of a record's sectors, cut one by one from what is left.
func payloads(record string) []string {
	rest := "\x01" + four(len(record)) + record
	first := min(234, len(rest))
	out := []string{rest[:first]}
	for rest = rest[first:]; rest != ""; {
		size := min(233, len(rest))
		out = append(out, "\x00"+rest[:size])
		rest = rest[size:]
	}
	return out
}

// laid is a log of n sectors with these records.
func laid(t *testing.T, n, version int, records ...string) []string {
	t.Helper()
	var out []string
	for _, record := range records {
		for _, payload := range payloads(record) {
			out = append(out, sealed(t, stampOf(version, len(out)), payload))
		}
	}
	for len(out) < n {
		out = append(out, zeros)
	}
	return out
}

// text is so many bytes, of which no two pieces are alike.
func text(size int) string {
	raw := make([]byte, size)
	for i := range raw {
		raw[i] = byte(i*7 + i/233*31 + i/65536)
	}
	return string(raw)
}

// told are the records that an iterator goes over, which must be numbered from 0 on.
func told(t *testing.T, each func(yield func(int, string) bool)) []string {
	t.Helper()
	var out []string
	for i, record := range each {
		if i != len(out) {
			t.Fatalf("Each tells number %d behind %d records", i, len(out))
		}
		out = append(out, record)
	}
	return out
}

// checkLog asks Replay and Each.
func checkLog(t *testing.T, d *disk.Disk, at, n, version int, want ...string) {
	t.Helper()
	got, err := journal.Replay(d, at, n, version)
	if err != nil || !slices.Equal(got, want) {
		t.Fatalf("Replay at %d, %d sectors, version %d: %d records, %.60q, %v, want %d, %.60q", at, n, version, len(got), got, err, len(want), want)
	}
	if got := told(t, journal.Each(d, at, n, version)); !slices.Equal(got, want) {
		t.Fatalf("Each at %d, %d sectors, version %d: %d records, %.60q, want %d, %.60q", at, n, version, len(got), got, len(want), want)
	}
}

// checkRefused asks Replay, Each and Begin.
func checkRefused(t *testing.T, d *disk.Disk, at, n, version int, want error) {
	t.Helper()
	if got, err := journal.Replay(d, at, n, version); len(got) != 0 || err != want {
		t.Errorf("Replay at %d, %d sectors, version %d: %d records, %v, want %v", at, n, version, len(got), err, want)
	}
	if got := told(t, journal.Each(d, at, n, version)); len(got) != 0 {
		t.Errorf("Each at %d, %d sectors, version %d tells %d records", at, n, version, len(got))
	}
	if j, err := journal.Begin(d, at, n, version); j != nil || err != want {
		t.Errorf("Begin at %d, %d sectors, version %d: %v, %v, want %v", at, n, version, j, err, want)
	}
}

func checkAppend(t *testing.T, j *journal.Journal, record string, want error) {
	t.Helper()
	if err := j.Append(record); err != want {
		t.Fatalf("Append of %.10q of %d: %v, want %v", record, len(record), err, want)
	}
}

func checkSync(t *testing.T, j *journal.Journal, want error) {
	t.Helper()
	if err := j.Sync(); err != want {
		t.Fatalf("Sync: %v, want %v", err, want)
	}
}

// checkRoom asks Used and Fits, by how many sectors are used and left.
func checkRoom(t *testing.T, j *journal.Journal, used, left int) {
	t.Helper()
	if j.Used() != used {
		t.Errorf("Used() = %d, want %d", j.Used(), used)
	}
	for _, bytes := range edges {
		if want := len(payloads(text(bytes))) <= left; j.Fits(bytes) != want {
			t.Errorf("Fits(%d) = %v, with %d sectors used and %d left", bytes, !want, used, left)
		}
	}
	most := 229 + 233*(left-1)
	for _, bytes := range []int{math.MinInt, math.MinInt + 1, -234, -230, -2, -1, most + 1, most + 2, most + 233, most + 234, 1 << 32, 1 << 40, math.MaxInt - 1, math.MaxInt} {
		if j.Fits(bytes) {
			t.Errorf("Fits(%d), with %d sectors used and %d left", bytes, used, left)
		}
	}
	if left > 0 && !j.Fits(most) {
		t.Errorf("Fits(%d) = false, with %d sectors used and %d left", most, used, left)
	}
}

func checkImage(t *testing.T, d *disk.Disk, sectors ...string) {
	t.Helper()
	if got := d.Image(); got != strings.Join(sectors, "") {
		t.Errorf("Image: %q, want %q", got, sectors)
	}
}

func checkCounts(t *testing.T, d *disk.Disk, writes, flushes, pending int) {
	t.Helper()
	if w, f := d.Counts(); w != writes || f != flushes || d.Pending() != pending {
		t.Errorf("%d writes, %d flushes, %d under way, want %d, %d, %d", w, f, d.Pending(), writes, flushes, pending)
	}
}

// TestCost counts the sectors of greater and greater records, the payloads cut from them one by one.
func TestCost(t *testing.T) {
	whole := text(5000)
	for bytes := range whole {
		if got, want := journal.Cost(bytes), len(payloads(whole[:bytes])); got != want {
			t.Fatalf("Cost(%d) = %d, want %d", bytes, got, want)
		}
	}
	const most = math.MaxInt
	for bytes, want := range map[int]int{
		math.MinInt: 0, math.MinInt + 1: 0, math.MinInt + 230: 0, -4294967296: 0, -234: 0, -233: 0, -2: 0, -1: 0,
		0: 1, 1: 1, 228: 1, 229: 1, 230: 2, 231: 2, 461: 2, 462: 2, 463: 3, 695: 3, 696: 4,
		229 + 233*65535: 65536, 230 + 233*65535: 65537, 1 << 32: 1 + (1<<32-229+232)/233,
		// Rounded up by big steps: 229 and a multiple of 233 just below the greatest int.
		229 + (most-229)/233*233: 1 + (most-229)/233, 230 + (most-229)/233*233: 2 + (most-229)/233, most - 1: 2 + (most-229)/233, most: 2 + (most-229)/233,
	} {
		if got := journal.Cost(bytes); got != want {
			t.Errorf("Cost(%d) = %d, want %d", bytes, got, want)
		}
	}
}

// TestLargest holds Largest against numbers without bounds, of which the lowest 64 bits are taken.
func TestLargest(t *testing.T) {
	for _, n := range []int{math.MinInt, math.MinInt + 1, -1 << 40, -234, -1, 0} {
		if got := journal.Largest(n); got != -1 {
			t.Errorf("Largest(%d) = %d, want -1", n, got)
		}
	}
	for n, want := range map[int]int{1: 229, 2: 462, 3: 695, 22: 5122, 65536: 15269884} {
		if got := journal.Largest(n); got != want {
			t.Errorf("Largest(%d) = %d, want %d", n, got, want)
		}
	}
	const most = math.MaxInt
	for _, n := range []int{1, 2, 65535, 65536, 65537, 1 << 40, most / 233, most/233 + 1, most/233 + 2, most / 2, most / 100, most - 1, most} {
		want := new(big.Int).Mul(big.NewInt(233), big.NewInt(int64(n)))
		want.Sub(want, big.NewInt(4))
		want.Mod(want, new(big.Int).Lsh(big.NewInt(1), 64))
		if got := journal.Largest(n); got != int(want.Uint64()) {
			t.Errorf("Largest(%d) = %d, want %d", n, got, int(want.Uint64()))
		}
	}
}

func TestExamples(t *testing.T) {
	d, long := made(t, 8), text(300)
	j := begun(t, d, 2, 4, 1)
	checkRoom(t, j, 0, 4)
	checkAppend(t, j, "a", nil)
	checkAppend(t, j, long, nil)
	checkRoom(t, j, 3, 1)
	checkAppend(t, j, text(230), api.ErrFull)
	checkRoom(t, j, 3, 1)
	checkCounts(t, d, 3, 0, 3)
	checkLog(t, d, 2, 4, 1, "a", long)
	checkLog(t, d, 2, 4, 2)
	checkLog(t, d, 3, 4, 1)
	checkRefused(t, d, 5, 4, 1, api.ErrRange)
}

func TestExampleOfACrash(t *testing.T) {
	d := made(t, 4)
	j := begun(t, d, 0, 4, 1)
	checkAppend(t, j, "a", nil)
	checkSync(t, j, nil)
	checkAppend(t, j, "b", nil)
	checkAppend(t, j, "c", nil)
	d.Crash(api.Fate{Kept: []bool{false, true}, Torn: -1})
	checkLog(t, d, 0, 4, 1, "a")
	checkImage(t, d, sealed(t, 1<<20+1, "\x01\x01\x00\x00\x00a"), zeros, sealed(t, 1<<20+3, "\x01\x01\x00\x00\x00c"), zeros)
}

// TestPlaces asks for disks of small sizes and of the greatest, for places that end at the disk's end, and for such that may not be.
func TestPlaces(t *testing.T) {
	for _, size := range []int{1, 2, 3, 5, api.MinSectors, api.MaxSectors} {
		d := made(t, size)
		for _, place := range [][2]int{
			{-1, 0}, {-1, 1}, {-1, size + 1}, {math.MinInt, 0}, {math.MinInt, 1}, {math.MinInt, math.MaxInt}, {0, -1}, {1, -1}, {size, -1}, {0, math.MinInt}, {math.MaxInt, math.MinInt},
			{0, size + 1}, {1, size}, {size - 1, 2}, {size, 1}, {size + 1, 0}, {size + 1, -1}, {0, 65537}, {0, math.MaxInt}, {1, math.MaxInt}, {math.MaxInt, 0}, {math.MaxInt, 1}, {math.MaxInt, math.MaxInt}, {1 << 62, 1 << 62}, {-1, math.MaxInt}, {math.MinInt, math.MinInt},
		} {
			for _, version := range []int{0, 1, 7, api.MaxVersion, api.MaxVersion + 1} {
				checkRefused(t, d, place[0], place[1], version, api.ErrRange)
			}
		}
		checkCounts(t, d, 0, 0, 0)
		version := 0
		for at := 0; at <= size; at += max(1, size/5) {
			for _, n := range []int{0, 1, size - at} {
				if n > size-at {
					continue
				}
				version++
				j := begun(t, d, at, n, version)
				checkRoom(t, j, 0, n)
				checkLog(t, d, at, n, version)
				record := text(max(0, 230+233*(n-1)))
				checkAppend(t, j, record, api.ErrFull)
				if n > 0 {
					checkAppend(t, j, record[1:], nil)
					checkLog(t, d, at, n, version, record[1:])
				}
				checkRoom(t, j, n, 0)
				checkAppend(t, j, "", api.ErrFull)
			}
		}
	}
}

// TestWholeDisk asks for the greatest log: one record over all of it, and one in each of its sectors.
func TestWholeDisk(t *testing.T) {
	d, record := made(t, api.MaxSectors), text(229+233*65535)
	j := begun(t, d, 0, 65536, api.MaxVersion)
	checkRoom(t, j, 0, 65536)
	checkAppend(t, j, record+"x", api.ErrFull)
	checkCounts(t, d, 0, 0, 0)
	checkAppend(t, j, record, nil)
	checkCounts(t, d, 65536, 0, 65536)
	checkRoom(t, j, 65536, 0)
	checkLog(t, d, 0, 65536, api.MaxVersion, record)
	checkLog(t, d, 0, 65535, api.MaxVersion)
	checkSync(t, j, nil)
	checkCounts(t, d, 65536, 1, 0)
	checkLog(t, d, 0, 65536, api.MaxVersion, record)

	var records []string
	j = begun(t, d, 0, 65536, 3)
	for i := range 65536 {
		records = append(records, four(i))
		checkAppend(t, j, records[i], nil)
	}
	checkAppend(t, j, "", api.ErrFull)
	checkLog(t, d, 0, 65536, 3, records...)
	checkLog(t, d, 0, 40000, 3, records[:40000]...)
}

// TestVersions asks for the least version and the greatest, and for those beyond.
func TestVersions(t *testing.T) {
	versions := []int{1, 2, 255, 256, 1<<20 - 1, 1 << 20, 1 << 32, api.MaxVersion - 1, api.MaxVersion}
	for _, written := range versions {
		d, record := made(t, 5), text(300)
		j := begun(t, d, 1, 4, written)
		checkAppend(t, j, record, nil)
		checkAppend(t, j, "b", nil)
		checkSync(t, j, nil)
		checkImage(t, d, append([]string{zeros}, laid(t, 4, written, record, "b")...)...)
		for _, version := range versions {
			if version == written {
				checkLog(t, d, 1, 4, version, record, "b")
			} else {
				checkLog(t, d, 1, 4, version)
			}
		}
		for _, version := range []int{math.MinInt, -written, -1, 0, api.MaxVersion + 1, 1 << 41, 1<<44 + 1, math.MaxInt} {
			checkRefused(t, d, 1, 4, version, api.ErrRange)
			checkRefused(t, d, 0, 0, version, api.ErrRange)
		}
		checkCounts(t, d, 3, 1, 0)
	}
}

// TestBytesOfALog asks for the sectors, byte for byte, whatever stands in the records.
func TestBytesOfALog(t *testing.T) {
	other := strings.Repeat("w", 256)
	for _, records := range [][]string{
		{""}, {"", "", ""}, {"a", "", "b"}, {"\x00"}, {"\x01\x01\x00\x00\x00a"}, {strings.Repeat("\x00", 229)}, {strings.Repeat("\x01", 463), "\x01"}, {strings.Repeat("\xff", 230), "\xff\xfe\x80"},
		{text(229), text(230)}, {text(462), text(463)}, {text(1394)}, {"x", text(1161)},
	} {
		d := made(t, 8)
		if err := d.Write(0, other); err != nil {
			t.Fatal(err)
		}
		j, want, used := begun(t, d, 1, 6, 9), laid(t, 6, 9, records...), 0
		for i, record := range records {
			checkAppend(t, j, record, nil)
			used += len(payloads(record))
			checkRoom(t, j, used, 6-used)
			checkCounts(t, d, 1+used, 0, 1+used)
			checkLog(t, d, 1, 6, 9, records[:i+1]...)
		}
		// Nothing is durable ahead of the flush, which makes all of the disk so.
		checkImage(t, d, zeros, zeros, zeros, zeros, zeros, zeros, zeros, zeros)
		checkSync(t, j, nil)
		checkCounts(t, d, 1+used, 1, 0)
		checkImage(t, d, append(append([]string{other}, want...), zeros)...)
		checkLog(t, d, 1, 6, 9, records...)
		checkSync(t, j, nil)
		checkCounts(t, d, 1+used, 2, 0)
	}
	// Once by hand, that a slip in what says the form isn't made twice.
	d := made(t, 2)
	j := begun(t, d, 0, 2, 1)
	checkAppend(t, j, text(230), nil)
	checkSync(t, j, nil)
	image := d.Image()
	if image[:15] != "\x01\x00\x10\x00\x00\x00\x00\x00\xea\x00\x01\xe6\x00\x00\x00" || image[15:244] != text(230)[:229] || image[248:256] != "\x01\x00\x10\x00\x00\x00\x00\x00" {
		t.Errorf("sector 0: %q", image[:256])
	}
	if raw := image[256:]; raw[:12] != "\x02\x00\x10\x00\x00\x00\x00\x00\x02\x00\x00"+text(230)[229:] || strings.Trim(raw[12:244], "\x00") != "" || raw[248:] != "\x02\x00\x10\x00\x00\x00\x00\x00" {
		t.Errorf("sector 1: %q", raw)
	}
}

// TestLengths asks for two records of all lengths about the ends of sectors, in logs that just take them and in such that are one sector short.
func TestLengths(t *testing.T) {
	for _, a := range edges {
		for _, b := range edges {
			first, second := text(a), text(1000)[1000-b:]
			one, both := len(payloads(first)), len(payloads(first))+len(payloads(second))
			d := made(t, 12)
			j := begun(t, d, 1, both, 4)
			checkAppend(t, j, first, nil)
			checkAppend(t, j, second, nil)
			checkRoom(t, j, both, 0)
			checkAppend(t, j, "", api.ErrFull)
			checkLog(t, d, 1, both, 4, first, second)
			checkLog(t, d, 1, both+1, 4, first, second)
			// A record is told only if all of its sectors are among the n.
			checkLog(t, d, 1, both-1, 4, first)
			checkLog(t, d, 1, one, 4, first)
			checkLog(t, d, 1, one-1, 4)
			k := begun(t, d, 1, both-1, 5)
			checkAppend(t, k, first, nil)
			checkAppend(t, k, second, api.ErrFull)
			checkRoom(t, k, one, both-1-one)
			checkCounts(t, d, both+one, 0, both+one)
			checkLog(t, d, 1, both, 5, first)
		}
	}
}

// TestFullIsNoEnd asks for smaller records behind one that had no room.
func TestFullIsNoEnd(t *testing.T) {
	d := made(t, 4)
	j := begun(t, d, 0, 4, 1)
	checkAppend(t, j, text(930), api.ErrFull)
	checkAppend(t, j, text(463), nil)
	checkAppend(t, j, text(230), api.ErrFull)
	checkCounts(t, d, 3, 0, 3)
	checkAppend(t, j, text(229), nil)
	checkAppend(t, j, "", api.ErrFull)
	checkSync(t, j, nil)
	checkLog(t, d, 0, 4, 1, text(463), text(229))
}

// TestNothingBegun asks for a log of no sectors, and for one to which nothing is appended.
func TestNothingBegun(t *testing.T) {
	d := made(t, 3)
	d.Arm(1)
	for at := range 4 {
		j := begun(t, d, at, 0, 1)
		checkRoom(t, j, 0, 0)
		checkAppend(t, j, "", api.ErrFull)
		checkAppend(t, j, text(300), api.ErrFull)
		checkLog(t, d, at, 0, 1)
	}
	j := begun(t, d, 0, 3, 1)
	checkLog(t, d, 0, 3, 1)
	checkCounts(t, d, 0, 0, 0)
	// None of these took of the armed count, but each of the next two does.
	checkSync(t, j, nil)
	checkCounts(t, d, 0, 1, 0)
	checkSync(t, begun(t, d, 3, 0, 1), api.ErrDown)
}

// TestEach asks for iterators that are gone over again, stopped early, and across each other.
func TestEach(t *testing.T) {
	d := made(t, 8)
	j := begun(t, d, 0, 8, 1)
	empty := journal.Each(d, 0, 8, 1)
	records := []string{"a", text(300), "", "d"}
	for _, record := range records {
		checkAppend(t, j, record, nil)
	}
	each := journal.Each(d, 0, 8, 1)
	for stop := range 5 {
		n := 0
		for i, record := range each {
			if i != n || record != records[i] {
				t.Fatalf("Each tells %d, %.10q", i, record)
			}
			if n == stop {
				break
			}
			n++
		}
		if n != stop {
			t.Errorf("%d records told ahead of the stop at %d", n, stop)
		}
	}
	pairs := 0
	for i := range each {
		for k := range each {
			if pairs != i*4+k {
				t.Fatalf("%d and %d behind %d pairs", i, k, pairs)
			}
			pairs++
		}
	}
	if pairs != 16 {
		t.Errorf("%d pairs", pairs)
	}
	// What was there when Each was called is told, whatever comes to the disk behind that.
	checkAppend(t, j, "e", nil)
	if got := told(t, each); !slices.Equal(got, records) {
		t.Errorf("behind an Append Each tells %.60q", got)
	}
	d.Arm(0)
	checkSync(t, j, api.ErrDown)
	down := journal.Each(d, 0, 8, 1)
	if got := told(t, each); !slices.Equal(got, records) {
		t.Errorf("without power Each tells %.60q", got)
	}
	d.Crash(api.Fate{Kept: []bool{true}, Torn: -1})
	if got := told(t, each); !slices.Equal(got, records) {
		t.Errorf("behind a crash Each tells %.60q", got)
	}
	if len(told(t, down)) != 0 || len(told(t, empty)) != 0 {
		t.Error("Each tells what came to the disk behind it")
	}
	checkLog(t, d, 0, 8, 1, "a")
}

// TestReplayIsNewMemory asks for lists that share nothing.
func TestReplayIsNewMemory(t *testing.T) {
	d := made(t, 4)
	j := begun(t, d, 0, 4, 1)
	checkAppend(t, j, "a", nil)
	checkAppend(t, j, "b", nil)
	each := journal.Each(d, 0, 4, 1)
	first, err := journal.Replay(d, 0, 4, 1)
	if err != nil {
		t.Fatal(err)
	}
	second, err := journal.Replay(d, 0, 4, 1)
	if err != nil {
		t.Fatal(err)
	}
	first[0], first[1] = "x", "y"
	_ = append(first, "z")
	if !slices.Equal(second, []string{"a", "b"}) || !slices.Equal(told(t, each), second) {
		t.Errorf("%q was told, and is another now", second)
	}
	checkLog(t, d, 0, 4, 1, "a", "b")
}

// TestPowerIsOff asks which error comes first, and that nothing is under way then.
func TestPowerIsOff(t *testing.T) {
	d := made(t, 4)
	j := begun(t, d, 0, 4, 1)
	checkAppend(t, j, "a", nil)
	checkSync(t, j, nil)
	d.Arm(0)
	if err := d.Flush(); err != api.ErrDown {
		t.Fatal(err)
	}
	for _, x := range [][3]int{{-1, 1, 1}, {0, -1, 1}, {0, 5, 1}, {1, 4, 1}, {5, 0, 1}, {0, 4, 0}, {0, 4, api.MaxVersion + 1}, {0, 0, -1}, {math.MaxInt, math.MaxInt, 1}} {
		checkRefused(t, d, x[0], x[1], x[2], api.ErrRange)
	}
	for _, x := range [][3]int{{0, 4, 1}, {0, 0, 1}, {4, 0, 1}, {1, 3, 2}, {0, 4, api.MaxVersion}} {
		checkRefused(t, d, x[0], x[1], x[2], api.ErrDown)
	}
	// What has no room is answered as what has, and both leave the disk alone.
	checkAppend(t, j, text(1000), api.ErrDown)
	checkAppend(t, j, "b", api.ErrDown)
	checkSync(t, j, api.ErrDown)
	checkRoom(t, j, 1, 3)
	checkCounts(t, d, 1, 1, 0)
	d.Crash(api.Fate{Torn: -1})
	checkLog(t, d, 0, 4, 1, "a")
}

// checkDead asks a dead journal for all that it answers, and that its disk isn't touched.
func checkDead(t *testing.T, d *disk.Disk, j *journal.Journal, used, left int) {
	t.Helper()
	image, pending := d.Image(), d.Pending()
	writes, flushes := d.Counts()
	for range 2 {
		checkAppend(t, j, "", api.ErrDown)
		checkAppend(t, j, text(300), api.ErrDown)
		checkAppend(t, j, text(5000), api.ErrDown)
		checkSync(t, j, api.ErrDown)
		checkRoom(t, j, used, left)
	}
	checkCounts(t, d, writes, flushes, pending)
	if d.Image() != image {
		t.Error("a dead journal changed the disk")
	}
}

// TestDead asks for journals that die by an Append, by a Sync, by a call of the disk, and by a crash alone.
func TestDead(t *testing.T) {
	for name, kill := range map[string]func(d *disk.Disk, j *journal.Journal) error{
		"an Append":     func(d *disk.Disk, j *journal.Journal) error { d.Arm(0); return j.Append("x") },
		"a long Append": func(d *disk.Disk, j *journal.Journal) error { d.Arm(1); return j.Append(text(463)) },
		"a Sync":        func(d *disk.Disk, j *journal.Journal) error { d.Arm(0); return j.Sync() },
		"a flush":       func(d *disk.Disk, j *journal.Journal) error { d.Arm(0); return d.Flush() },
		"a write":       func(d *disk.Disk, j *journal.Journal) error { d.Arm(0); return d.Write(0, zeros) },
		"a crash":       func(d *disk.Disk, j *journal.Journal) error { return api.ErrDown },
	} {
		d := made(t, 8)
		j := begun(t, d, 1, 6, 1)
		checkAppend(t, j, text(300), nil)
		checkSync(t, j, nil)
		checkAppend(t, j, "b", nil)
		if err := kill(d, j); err != api.ErrDown {
			t.Fatalf("%s: %v", name, err)
		}
		if d.Off() {
			checkDead(t, d, j, 3, 3)
		}
		d.Crash(api.Fate{Torn: -1})
		checkDead(t, d, j, 3, 3)
		checkLog(t, d, 1, 6, 1, text(300))
		// Another journal of the disk lives; and what it writes, the dead one doesn't make durable.
		k := begun(t, d, 1, 6, 2)
		checkAppend(t, k, "k", nil)
		checkDead(t, d, j, 3, 3)
		checkSync(t, k, nil)
		d.Crash(api.Fate{Torn: -1})
		checkDead(t, d, j, 3, 3)
		checkDead(t, d, k, 1, 5)
		checkLog(t, d, 1, 6, 2, "k")
		checkLog(t, d, 1, 6, 1)
	}
}

// TestBegunBehindCrashes asks for a journal that begins in a later life of its disk.
func TestBegunBehindCrashes(t *testing.T) {
	d := made(t, 4)
	var all []*journal.Journal
	for life := range 4 {
		j := begun(t, d, 0, 4, life+1)
		checkAppend(t, j, four(life), nil)
		checkSync(t, j, nil)
		for _, dead := range all {
			checkDead(t, d, dead, 1, 3)
		}
		checkLog(t, d, 0, 4, life+1, four(life))
		all = append(all, j)
		d.Crash(api.Fate{Torn: -1})
	}
}

// TestPowerGoes asks for the power that goes at each write of a record, at the flush, and just behind it.
func TestPowerGoes(t *testing.T) {
	record := text(600)
	for arm := range 5 {
		d := made(t, 6)
		j := begun(t, d, 1, 5, 1)
		checkAppend(t, j, "a", nil)
		checkSync(t, j, nil)
		d.Arm(arm)
		if arm < 3 {
			checkAppend(t, j, record, api.ErrDown)
			checkRoom(t, j, 1, 4)
			// A write at which the power goes is under way, and none comes behind it.
			checkCounts(t, d, 1+arm, 1, arm+1)
		} else {
			checkAppend(t, j, record, nil)
			checkRoom(t, j, 4, 1)
			want := error(nil)
			if arm == 3 {
				want = api.ErrDown
			}
			checkSync(t, j, want)
		}
		d.Crash(api.Fate{Kept: []bool{true, true, true}, Torn: -1})
		if arm < 2 {
			checkLog(t, d, 1, 5, 1, "a")
		} else {
			checkLog(t, d, 1, 5, 1, "a", record)
		}
	}
}

// TestTwoLogs asks for two journals of one disk: each writes in its own place, and the flush of the one makes the other's records durable too.
func TestTwoLogs(t *testing.T) {
	d := made(t, 9)
	j, k := begun(t, d, 1, 3, 7), begun(t, d, 5, 4, 7)
	checkAppend(t, j, "a", nil)
	checkAppend(t, k, text(300), nil)
	checkAppend(t, j, text(230), nil)
	checkAppend(t, j, "", api.ErrFull)
	checkAppend(t, k, "c", nil)
	checkSync(t, j, nil)
	checkCounts(t, d, 6, 1, 0)
	checkRoom(t, j, 3, 0)
	checkRoom(t, k, 3, 1)
	d.Crash(api.Fate{Torn: -1})
	checkLog(t, d, 1, 3, 7, "a", text(230))
	checkLog(t, d, 5, 4, 7, text(300), "c")
	// The places begin where they begin: the stamps are counted from there.
	checkLog(t, d, 0, 9, 7)
	checkLog(t, d, 2, 2, 7)
	checkLog(t, d, 4, 5, 7)
}

// TestJournalsOfOneVersion asks for what isn't looked at: what stands there when a journal begins.
func TestJournalsOfOneVersion(t *testing.T) {
	d := made(t, 5)
	j := begun(t, d, 0, 5, 3)
	for _, record := range []string{"a", text(230), "c"} {
		checkAppend(t, j, record, nil)
	}
	k := begun(t, d, 0, 5, 3)
	checkRoom(t, k, 0, 5)
	checkLog(t, d, 0, 5, 3, "a", text(230), "c")
	checkAppend(t, k, "k", nil)
	checkLog(t, d, 0, 5, 3, "k", text(230), "c")
	checkAppend(t, k, "l", nil)
	// The second sector of the long record begins nothing.
	checkLog(t, d, 0, 5, 3, "k", "l")
	checkAppend(t, k, "m", nil)
	checkLog(t, d, 0, 5, 3, "k", "l", "m", "c")
	checkAppend(t, j, "d", nil)
	checkLog(t, d, 0, 5, 3, "k", "l", "m", "c", "d")
	checkSync(t, k, nil)
	checkRoom(t, k, 3, 2)
	checkRoom(t, j, 5, 0)
}

// wrongFirsts are payloads that begin no record in a sector behind which all is zeros, or none of this many bytes.
func wrongFirsts() []string {
	out := []string{"", "\x01", "\x01\x00\x00\x00", "\x00", "\x00\x00\x00\x00\x00", "\x02\x01\x00\x00\x00a", "\x00\x01\x00\x00\x00a", "\xff\x01\x00\x00\x00a", "\x81\x01\x00\x00\x00a"}
	for _, size := range []int{0, 2, 257, 1 << 8, 1<<16 + 1, 1<<24 + 1, 1 << 31, 1<<32 - 1} {
		out = append(out, "\x01"+four(size)+"a")
	}
	for _, size := range []int{1, 5, 228, 229} {
		out = append(out, "\x01"+four(size)+text(size)[1:], "\x01"+four(size-1)+text(size), "\x01"+four(size)+text(size-1))
	}
	// The length with its high byte first, and the payload of a record that goes on.
	return append(out, "\x01\x00\x00\x00\x01a", payloads(text(230))[0], payloads(text(1 << 20))[0])
}

// TestWrongFirsts asks for sectors that count, but begin no whole record: the log ends there, whatever comes behind.
func TestWrongFirsts(t *testing.T) {
	for _, payload := range wrongFirsts() {
		for place := range 3 {
			sectors := laid(t, 4, 2, "a", "b", "c", "d")
			sectors[place] = sealed(t, stampOf(2, place), payload)
			checkLog(t, from(t, sectors...), 0, 4, 2, []string{"a", "b", "c"}[:place]...)
		}
		checkLog(t, from(t, sealed(t, stampOf(2, 0), payload)), 0, 1, 2)
	}
	// One that is whole tells what it has, whoever wrote it.
	checkLog(t, from(t, sealed(t, stampOf(2, 0), "\x01\x03\x00\x00\x00\x01\x02\x03")), 0, 1, 2, "\x01\x02\x03")
}

// TestWrongPieces asks for records of several sectors of which one hasn't just the payload that it needs.
func TestWrongPieces(t *testing.T) {
	record := text(600)
	for place, good := range payloads(record) {
		var wrong []string
		for _, mark := range []string{"\x00", "\x01", "\x02", "\xff", ""} {
			if mark != good[:1] {
				wrong = append(wrong, mark+good[1:])
			}
		}
		for _, short := range []int{0, 1, 2, 4, 5, 6, 100, len(good) - 2, len(good) - 1} {
			wrong = append(wrong, good[:short])
		}
		if len(good) < 234 {
			wrong = append(wrong, good+"\x00", good+"x", (good + text(234))[:234])
		}
		if place == 0 {
			for _, size := range []int{0, 228, 230, 461, 463, 599, 601, 695, 696, 600 + 65536, 600 + 1<<24, 600 + 1<<31} {
				wrong = append(wrong, "\x01"+four(size)+good[5:])
			}
		}
		for _, payload := range wrong {
			sectors := laid(t, 6, 2, "a", record, "c")
			sectors[1+place] = sealed(t, stampOf(2, 1+place), payload)
			checkLog(t, from(t, sectors...), 0, 6, 2, "a")
		}
	}
}

// TestPiecesThatMoveBytes asks for pieces that come to the right length in all, but not each by itself.
func TestPiecesThatMoveBytes(t *testing.T) {
	record := text(600)
	for _, cuts := range [][2]int{{228, 461}, {229, 461}, {200, 433}, {134, 367}, {138, 371}, {229, 400}, {200, 400}} {
		sectors := []string{sealed(t, stampOf(2, 0), "\x01"+four(600)+record[:cuts[0]]), sealed(t, stampOf(2, 1), "\x00"+record[cuts[0]:cuts[1]]), sealed(t, stampOf(2, 2), "\x00"+record[cuts[1]:])}
		checkLog(t, from(t, sectors...), 0, 3, 2)
	}
	// A record that ends with its sector has no empty one behind it.
	sectors := []string{sealed(t, stampOf(2, 0), "\x01"+four(229)+text(229)), sealed(t, stampOf(2, 1), "\x00"), sealed(t, stampOf(2, 2), payloads("c")[0])}
	checkLog(t, from(t, sectors...), 0, 3, 2, text(229))
}

// TestWrongStamps asks for sectors under any stamp but their place's own: of another place, of another version, of a sum that is alike.
func TestWrongStamps(t *testing.T) {
	record := text(400)
	for place := range 4 {
		payload := append(append(payloads("a"), payloads(record)...), payloads("d")...)[place]
		own := stampOf(2, place)
		for _, stamp := range []uint64{own - 1, own + 1, stampOf(1, place), stampOf(3, place), stampOf(2, 65535), uint64(2), uint64(place + 1), own << 1, own + 1<<40, own + 1<<61, 1, math.MaxUint64} {
			sectors := laid(t, 5, 2, "a", record, "d", "e")
			sectors[place] = sealed(t, stamp, payload)
			checkLog(t, from(t, sectors...), 0, 5, 2, []string{"a", record, "d"}[:[]int{0, 1, 1, 2}[place]]...)
		}
	}
}

// TestTurnedBytes asks for each byte of a log that is turned: the records ahead of it are told, and none from there on.
func TestTurnedBytes(t *testing.T) {
	records := []string{"a", text(300), "c"}
	image := strings.Join(laid(t, 5, 300, records...), "")
	ahead := []int{0, 1, 1, 2, 3}
	for i := range image {
		turned := image[:i] + string([]byte{image[i] ^ 1<<(i%8)}) + image[i+1:]
		checkLog(t, from(t, turned), 0, 5, 300, records[:ahead[i/256]]...)
	}
}

// TestNewestIsRead asks for what is under way, over what is durable.
func TestNewestIsRead(t *testing.T) {
	old, fresh := laid(t, 3, 4, "a", "b", "c"), laid(t, 3, 4, "x", text(300))
	d := from(t, old...)
	for i, raw := range fresh {
		if err := d.Write(i, raw); err != nil {
			t.Fatal(err)
		}
		want := [][]string{{"x", "b", "c"}, {"x"}, {"x", text(300)}}[i]
		checkLog(t, d, 0, 3, 4, want...)
		checkLog(t, d, 0, 3, 4, want...)
	}
	checkCounts(t, d, 3, 0, 3)
	checkImage(t, d, old...)
	d.Crash(api.Fate{Torn: -1})
	checkLog(t, d, 0, 3, 4, "a", "b", "c")
}
