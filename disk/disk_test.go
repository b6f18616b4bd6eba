package disk_test

import (
	"math"
	"remit/api"
	"remit/disk"
	"slices"
	"strings"
	"testing"
)

// full is a sector of one letter; of "0" it is one of zeros, as in the chapter's examples.
func full(letter string) string {
	if letter == "0" {
		letter = "\x00"
	}
	return strings.Repeat(letter, api.SectorSize)
}

// image is the sectors of these letters.
func image(letters string) string {
	var out strings.Builder
	for i := range len(letters) {
		out.WriteString(full(letters[i : i+1]))
	}
	return out.String()
}

// torn is a sector that begins with so many bytes of one letter, and goes on with another.
func torn(fresh string, size int, old string) string {
	return full(fresh)[:size] + full(old)[size:]
}

func made(t *testing.T, n int) *disk.Disk {
	t.Helper()
	d, err := disk.New(n)
	if err != nil {
		t.Fatalf("New(%d): %v", n, err)
	}
	return d
}

func from(t *testing.T, letters string) *disk.Disk {
	t.Helper()
	d, err := disk.From(image(letters))
	if err != nil {
		t.Fatalf("From(%.60q): %v", letters, err)
	}
	return d
}

func checkWrite(t *testing.T, d *disk.Disk, i int, sector string, want error) {
	t.Helper()
	if err := d.Write(i, sector); err != want {
		t.Errorf("Write(%d, %.4q of %d): %v, want %v", i, sector, len(sector), err, want)
	}
}

func checkFlush(t *testing.T, d *disk.Disk, want error) {
	t.Helper()
	if err := d.Flush(); err != want {
		t.Errorf("Flush: %v, want %v", err, want)
	}
}

func checkRead(t *testing.T, d *disk.Disk, i int, want string, wantErr error) {
	t.Helper()
	if got, err := d.Read(i); got != want || err != wantErr {
		t.Errorf("Read(%d): %.4q of %d, %v, want %.4q, %v", i, got, len(got), err, want, wantErr)
	}
}

func checkImage(t *testing.T, d *disk.Disk, want string) {
	t.Helper()
	if got := d.Image(); got != want {
		t.Errorf("Image: %q, want %q", got, want)
	}
}

func checkPending(t *testing.T, d *disk.Disk, want int) {
	t.Helper()
	if got := d.Pending(); got != want {
		t.Errorf("Pending: %d, want %d", got, want)
	}
}

func checkOff(t *testing.T, d *disk.Disk, want bool) {
	t.Helper()
	if got := d.Off(); got != want {
		t.Errorf("Off: %v, want %v", got, want)
	}
}

func checkCounts(t *testing.T, d *disk.Disk, writes, flushes, crashes int) {
	t.Helper()
	if w, f := d.Counts(); w != writes || f != flushes {
		t.Errorf("Counts: %d, %d, want %d, %d", w, f, writes, flushes)
	}
	if got := d.Life(); got != crashes {
		t.Errorf("Life: %d, want %d", got, crashes)
	}
}

// checkFresh asks whether d is as New and From leave it, with these durable bytes.
func checkFresh(t *testing.T, d *disk.Disk, want string) {
	t.Helper()
	if d.Size() != len(want)/api.SectorSize || d.Image() != want {
		t.Errorf("a fresh disk: %d sectors, %d bytes", d.Size(), len(d.Image()))
	}
	for i := range d.Size() {
		checkRead(t, d, i, want[i*api.SectorSize:(i+1)*api.SectorSize], nil)
	}
	checkPending(t, d, 0)
	checkOff(t, d, false)
	checkCounts(t, d, 0, 0, 0)
	// Nothing is armed.
	for range 3 {
		checkWrite(t, d, 0, full("n"), nil)
		checkFlush(t, d, nil)
	}
}

func TestNew(t *testing.T) {
	for _, n := range []int{1, 2, 3, api.MinSectors, api.MaxSectors - 1, api.MaxSectors} {
		checkFresh(t, made(t, n), strings.Repeat("\x00", n*api.SectorSize))
	}
	for _, n := range []int{0, -1, api.MaxSectors + 1, 1 << 32, 1<<32 + 1, math.MinInt, math.MaxInt} {
		if d, err := disk.New(n); d != nil || err != api.ErrRange {
			t.Errorf("New(%d): %v, %v", n, d != nil, err)
		}
	}
}

func TestFrom(t *testing.T) {
	for _, letters := range []string{"0", "a", "00", "ab", "ba0c", strings.Repeat("ab", api.MaxSectors/2)} {
		checkFresh(t, from(t, letters), image(letters))
	}
	mixed := make([]byte, 3*api.SectorSize)
	for i := range mixed {
		mixed[i] = byte(i * 7)
	}
	d, err := disk.From(string(mixed))
	if err != nil {
		t.Fatal(err)
	}
	checkFresh(t, d, string(mixed))
	most := api.MaxSectors * api.SectorSize
	for _, x := range []struct {
		size int
		want error
	}{
		{0, api.ErrRange},
		{1, api.ErrForm}, {255, api.ErrForm}, {257, api.ErrForm}, {511, api.ErrForm}, {128, api.ErrForm},
		{most - 1, api.ErrForm},
		{most + api.SectorSize, api.ErrRange},
		// The form comes ahead of the range.
		{most + 1, api.ErrForm}, {most + 2*api.SectorSize - 1, api.ErrForm},
	} {
		if d, err := disk.From(strings.Repeat("a", x.size)); d != nil || err != x.want {
			t.Errorf("From of %d bytes: %v, %v, want %v", x.size, d != nil, err, x.want)
		}
	}
}

// begun is the disk of the chapter's first example.
func begun(t *testing.T) *disk.Disk {
	t.Helper()
	d := made(t, 2)
	checkWrite(t, d, 0, full("a"), nil)
	checkRead(t, d, 0, full("a"), nil)
	checkRead(t, d, 1, full("0"), nil)
	checkImage(t, d, image("00"))
	checkPending(t, d, 1)
	checkCounts(t, d, 1, 0, 0)
	checkFlush(t, d, nil)
	checkRead(t, d, 0, full("a"), nil)
	checkImage(t, d, image("a0"))
	checkPending(t, d, 0)
	checkCounts(t, d, 1, 1, 0)
	return d
}

// underWay is begun with the three writes of the chapter's second example.
func underWay(t *testing.T) *disk.Disk {
	t.Helper()
	d := begun(t)
	checkWrite(t, d, 0, full("b"), nil)
	checkRead(t, d, 0, full("b"), nil)
	checkWrite(t, d, 1, full("c"), nil)
	checkWrite(t, d, 0, full("d"), nil)
	checkRead(t, d, 0, full("d"), nil)
	checkRead(t, d, 1, full("c"), nil)
	checkImage(t, d, image("a0"))
	checkPending(t, d, 3)
	checkCounts(t, d, 4, 1, 0)
	return d
}

func TestFlushDoesAllInTheirOrder(t *testing.T) {
	d := underWay(t)
	checkFlush(t, d, nil)
	checkImage(t, d, image("dc"))
	checkPending(t, d, 0)
	checkCounts(t, d, 4, 2, 0)
	// What was under way ahead of the flush says nothing of what is behind it.
	checkWrite(t, d, 1, full("e"), nil)
	checkRead(t, d, 0, full("d"), nil)
	checkRead(t, d, 1, full("e"), nil)
	checkImage(t, d, image("dc"))
	checkFlush(t, d, nil)
	checkFlush(t, d, nil)
	checkImage(t, d, image("de"))
	checkCounts(t, d, 5, 4, 0)
}

func TestFates(t *testing.T) {
	yes, no := true, false
	for _, x := range []struct {
		fate api.Fate
		want string
	}{
		{api.Fate{Kept: []bool{no, yes}, Torn: -1}, image("ac")},
		{api.Fate{Kept: []bool{yes, yes, no}, Torn: -1}, image("bc")},
		{api.Fate{Kept: []bool{yes}, Torn: 2, Bytes: 10}, torn("d", 10, "b") + full("0")},
		{api.Fate{Torn: -1}, image("a0")},
		{api.Fate{Kept: []bool{}, Torn: -1}, image("a0")},
		{api.Fate{Kept: []bool{yes}, Torn: -1}, image("b0")},
		{api.Fate{Kept: []bool{no, no, yes}, Torn: -1}, image("d0")},
		{api.Fate{Kept: []bool{yes, yes, yes}, Torn: -1}, image("dc")},
		{api.Fate{Kept: []bool{no, no, no}, Torn: -1}, image("a0")},
		// What Kept says of writes that aren't there, and of the torn one, is nothing.
		{api.Fate{Kept: []bool{no, no, no, yes, yes}, Torn: -1}, image("a0")},
		{api.Fate{Kept: []bool{no, no, yes}, Torn: 2, Bytes: 10}, torn("d", 10, "a") + full("0")},
		{api.Fate{Kept: []bool{yes, yes, yes}, Torn: 0, Bytes: 10}, image("dc")},
		{api.Fate{Kept: []bool{yes, yes, no}, Torn: 0, Bytes: 10}, torn("b", 10, "a") + full("c")},
		{api.Fate{Kept: []bool{no, yes, no}, Torn: 1, Bytes: 100}, full("a") + torn("c", 100, "0")},
		// A Torn of no write tears none.
		{api.Fate{Kept: []bool{yes, yes, yes}, Torn: 3, Bytes: 10}, image("dc")},
		{api.Fate{Kept: []bool{yes, yes, yes}, Torn: math.MaxInt, Bytes: 10}, image("dc")},
		{api.Fate{Kept: []bool{yes, yes, yes}, Torn: math.MinInt, Bytes: 10}, image("dc")},
		{api.Fate{Torn: 3, Bytes: 10}, image("a0")},
		// The empty fate tears the first write ahead of its first byte.
		{api.Fate{}, image("a0")},
		{api.Fate{Kept: []bool{yes, yes}}, image("ac")},
	} {
		d := underWay(t)
		d.Crash(x.fate)
		if got := d.Image(); got != x.want {
			t.Errorf("Crash(%v): %q, want %q", x.fate, got, x.want)
		}
		checkRead(t, d, 0, x.want[:api.SectorSize], nil)
		checkRead(t, d, 1, x.want[api.SectorSize:], nil)
		checkPending(t, d, 0)
		checkOff(t, d, false)
		checkCounts(t, d, 4, 1, 1)
	}
}

func TestTears(t *testing.T) {
	sizes := []int{math.MinInt, -257, -1, 257, 512, math.MaxInt}
	for n := range api.SectorSize + 1 {
		sizes = append(sizes, n)
	}
	for _, n := range sizes {
		done := min(max(n, 0), api.SectorSize)
		for _, kept := range [][]bool{nil, {false}, {true}} {
			d := from(t, "xyz")
			checkWrite(t, d, 1, full("n"), nil)
			d.Crash(api.Fate{Kept: kept, Torn: 0, Bytes: n})
			checkImage(t, d, full("x")+torn("n", done, "y")+full("z"))
		}
	}
}

// TestTornOverKept asks for the rest of a torn sector: it is what the fates of earlier writes left there.
func TestTornOverKept(t *testing.T) {
	for _, x := range []struct {
		kept []bool
		torn int
		want string
	}{
		{[]bool{true, true, false}, 2, torn("r", 100, "q")},
		{[]bool{true, false, false}, 2, torn("r", 100, "p")},
		{[]bool{false, false, false}, 2, torn("r", 100, "o")},
		{[]bool{true, false, false}, 1, torn("q", 100, "p")},
		{[]bool{false, false, true}, 1, full("r")},
	} {
		d := from(t, "o")
		checkWrite(t, d, 0, full("p"), nil)
		checkWrite(t, d, 0, full("q"), nil)
		checkWrite(t, d, 0, full("r"), nil)
		d.Crash(api.Fate{Kept: x.kept, Torn: x.torn, Bytes: 100})
		checkImage(t, d, x.want)
	}
}

func TestPowerGoesAtAWrite(t *testing.T) {
	d := made(t, 2)
	d.Arm(1)
	checkWrite(t, d, 0, full("a"), nil)
	checkOff(t, d, false)
	checkWrite(t, d, 1, full("b"), api.ErrDown)
	checkOff(t, d, true)
	checkPending(t, d, 2)
	checkCounts(t, d, 1, 0, 0)
	checkImage(t, d, image("00"))
	checkRead(t, d, 0, "", api.ErrDown)
	d.Crash(api.Fate{Kept: []bool{true, true}, Torn: -1})
	checkImage(t, d, image("ab"))
	checkOff(t, d, false)
	checkCounts(t, d, 1, 0, 1)
	checkWrite(t, d, 1, full("c"), nil)
	checkFlush(t, d, nil)
	checkImage(t, d, image("ac"))
	checkCounts(t, d, 2, 1, 1)
}

func TestPowerGoesAtAFlush(t *testing.T) {
	d := begun(t)
	checkWrite(t, d, 1, full("b"), nil)
	d.Arm(0)
	checkFlush(t, d, api.ErrDown)
	checkOff(t, d, true)
	checkPending(t, d, 1)
	checkImage(t, d, image("a0"))
	checkCounts(t, d, 2, 1, 0)
	d.Crash(api.Fate{Torn: 0, Bytes: 3})
	checkImage(t, d, full("a")+torn("b", 3, "0"))
	// And with nothing under way.
	d.Arm(0)
	checkFlush(t, d, api.ErrDown)
	checkOff(t, d, true)
	d.Crash(api.Fate{Kept: []bool{true}})
	checkOff(t, d, false)
	checkCounts(t, d, 2, 1, 2)
}

// TestPowerGoesAtNumberK asks for each armed count below 8, and for each row of writes and flushes that comes to its end: it counts those of them alone that have no other error.
func TestPowerGoesAtNumberK(t *testing.T) {
	for k := range 8 {
		for row := range 2 << k {
			d := made(t, 2)
			d.Arm(k)
			for i := range k + 1 {
				checkWrite(t, d, 2, full("x"), api.ErrRange)
				checkWrite(t, d, 0, "x", api.ErrForm)
				checkRead(t, d, 2, "", api.ErrRange)
				checkRead(t, d, 1, full("0"), nil)
				checkOff(t, d, false)
				want := error(nil)
				if i == k {
					want = api.ErrDown
				}
				if row>>i&1 == 1 {
					checkWrite(t, d, 0, full("x"), want)
				} else {
					checkFlush(t, d, want)
				}
			}
			checkOff(t, d, true)
		}
	}
}

func TestArmAnew(t *testing.T) {
	d := made(t, 2)
	// Below 0 nothing is armed.
	for _, k := range []int{-1, -2, math.MinInt} {
		d.Arm(0)
		d.Arm(k)
		for range 5 {
			checkWrite(t, d, 0, full("a"), nil)
			checkFlush(t, d, nil)
		}
	}
	// The last count is the one that is armed.
	d.Arm(0)
	d.Arm(math.MaxInt)
	d.Arm(2)
	checkFlush(t, d, nil)
	d.Arm(1)
	checkFlush(t, d, nil)
	d.Arm(math.MaxInt)
	checkFlush(t, d, nil)
	d.Arm(0)
	checkWrite(t, d, 9, full("a"), api.ErrRange)
	checkWrite(t, d, 0, "", api.ErrForm)
	checkOff(t, d, false)
	checkFlush(t, d, api.ErrDown)
	// Arm brings no power back, and a crash ends what was armed ahead of it.
	for _, k := range []int{-1, 0, 7} {
		d.Arm(k)
		checkOff(t, d, true)
		checkFlush(t, d, api.ErrDown)
	}
	d.Arm(0)
	d.Crash(api.Fate{})
	checkFlush(t, d, nil)
	d.Arm(0)
	d.Crash(api.Fate{})
	checkFlush(t, d, nil)
	checkWrite(t, d, 0, full("b"), nil)
}

func TestOff(t *testing.T) {
	d := underWay(t)
	d.Arm(0)
	checkFlush(t, d, api.ErrDown)
	for range 3 {
		checkFlush(t, d, api.ErrDown)
		// The power comes ahead of the range, and that ahead of the form.
		for _, i := range []int{0, 1, 2, -1, math.MinInt, math.MaxInt} {
			checkRead(t, d, i, "", api.ErrDown)
			checkWrite(t, d, i, full("x"), api.ErrDown)
			checkWrite(t, d, i, "x", api.ErrDown)
		}
		checkPending(t, d, 3)
		checkImage(t, d, image("a0"))
		checkCounts(t, d, 4, 1, 0)
		checkOff(t, d, true)
		if d.Size() != 2 {
			t.Errorf("Size: %d", d.Size())
		}
	}
	d.Crash(api.Fate{Kept: []bool{false, true, true}, Torn: -1})
	checkImage(t, d, image("dc"))
}

func TestRefusals(t *testing.T) {
	d := underWay(t)
	for _, i := range []int{-1, -2, 2, 3, 1 << 32, math.MinInt, math.MaxInt} {
		checkRead(t, d, i, "", api.ErrRange)
		for _, sector := range []string{full("x"), "", "x", full("x") + "x"} {
			checkWrite(t, d, i, sector, api.ErrRange)
		}
	}
	for _, size := range []int{0, 1, 255, 257, 512, 1 << 20} {
		checkWrite(t, d, 0, strings.Repeat("x", size), api.ErrForm)
		checkWrite(t, d, 1, strings.Repeat("x", size), api.ErrForm)
	}
	checkRead(t, d, 0, full("d"), nil)
	checkRead(t, d, 1, full("c"), nil)
	checkPending(t, d, 3)
	checkCounts(t, d, 4, 1, 0)
	checkFlush(t, d, nil)
	checkImage(t, d, image("dc"))
}

func TestGreatestDisk(t *testing.T) {
	d := made(t, api.MaxSectors)
	last := api.MaxSectors - 1
	checkWrite(t, d, last, full("z"), nil)
	checkRead(t, d, last, full("z"), nil)
	checkWrite(t, d, last+1, full("z"), api.ErrRange)
	checkFlush(t, d, nil)
	for i := range api.MaxSectors {
		checkWrite(t, d, i, full("y"), nil)
	}
	checkPending(t, d, api.MaxSectors)
	if d.Image() != strings.Repeat("\x00", last*api.SectorSize)+full("z") {
		t.Error("the image with all sectors under way")
	}
	kept := make([]bool, api.MaxSectors)
	kept[0], kept[last] = true, true
	d.Crash(api.Fate{Kept: kept, Torn: -1})
	if d.Image() != full("y")+strings.Repeat("\x00", (last-1)*api.SectorSize)+full("y") {
		t.Error("the image behind the crash")
	}
}

// TestHandedIn asks for rule 5: a fate stays as it was, spare room included.
func TestHandedIn(t *testing.T) {
	room := []bool{true, false, true, false, true}
	want := slices.Clone(room)
	d := underWay(t)
	d.Crash(api.Fate{Kept: room[:2], Torn: 2, Bytes: 1})
	if !slices.Equal(room, want) {
		t.Errorf("Kept is %v behind Crash", room)
	}
	checkImage(t, d, torn("d", 1, "b")+full("0"))
}

// TestDisksAreApart asks whether disks share nothing: neither one and the disk of its image, nor two of one image.
func TestDisksAreApart(t *testing.T) {
	d := from(t, "ab")
	others := []*disk.Disk{from(t, "ab"), made(t, 2)}
	twin, err := disk.From(d.Image())
	if err != nil {
		t.Fatal(err)
	}
	others = append(others, twin)
	checkWrite(t, d, 0, full("x"), nil)
	checkFlush(t, d, nil)
	checkWrite(t, d, 1, full("y"), nil)
	d.Arm(0)
	checkFlush(t, d, api.ErrDown)
	for i, other := range others {
		checkFresh(t, other, image([]string{"ab", "00", "ab"}[i]))
	}
	checkImage(t, d, image("xb"))
	checkPending(t, d, 1)
}
