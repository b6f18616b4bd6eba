package slots_test

import (
	"math/rand/v2"
	"remit/api"
	"remit/disk"
	"remit/slots"
	"strings"
	"testing"
)

// slot is what a sector counts as, whatever its place.
type slot struct {
	stamp uint64
	value string
}

// pool is all sectors that were ever made: what isn't in it counts as nothing (P7.2).
type pool map[string]slot

func (p pool) add(t *testing.T, stamp uint64, value string) string {
	t.Helper()
	raw := sealed(t, stamp, value)
	p[raw] = slot{stamp, value}
	return raw
}

// read says what Read of a disk at a place answers, by the sectors that it reads and the pool.
func (p pool) read(d *disk.Disk, at int) (string, int, error) {
	if at < 0 || at+2 > d.Size() {
		return "", 0, api.ErrRange
	}
	if d.Off() {
		return "", 0, api.ErrDown
	}
	best := slot{}
	for i := at; i < at+2; i++ {
		raw, _ := d.Read(i)
		if s, ok := p[raw]; ok && s.stamp <= 1<<40 && s.stamp&1 == uint64(i-at) && s.stamp > best.stamp {
			best = s
		}
	}
	if best.stamp == 0 {
		return "", 0, api.ErrBlank
	}
	return best.value, int(best.stamp), nil
}

// write does on a disk what Write does, by the disk's own calls.
func (p pool) write(t *testing.T, d *disk.Disk, at, version int, value string) error {
	t.Helper()
	if at < 0 || at+2 > d.Size() || version < 1 || version > 1<<40 {
		return api.ErrRange
	}
	if len(value) > 234 {
		return api.ErrLimit
	}
	if err := d.Write(at+version&1, p.add(t, uint64(version), value)); err != nil {
		return err
	}
	return d.Flush()
}

// twins are two disks: on one of them slots writes, on the other the pool does.
type twins struct {
	p           pool
	asked, told *disk.Disk
}

func (w twins) check(t *testing.T) {
	t.Helper()
	if w.asked.Image() != w.told.Image() || w.asked.Pending() != w.told.Pending() || w.asked.Off() != w.told.Off() {
		t.Fatalf("the disk is another: %q, %d under way, off: %v; want %q, %d, %v", w.asked.Image(), w.asked.Pending(), w.asked.Off(), w.told.Image(), w.told.Pending(), w.told.Off())
	}
	for at := -2; at <= w.told.Size()+1; at++ {
		want, version, wantErr := w.p.read(w.told, at)
		if got, v, err := slots.Read(w.asked, at); got != want || v != version || err != wantErr {
			t.Fatalf("Read at %d: %q, %d, %v, want %q, %d, %v", at, got, v, err, want, version, wantErr)
		}
	}
	writes, flushes := w.asked.Counts()
	if a, b := w.told.Counts(); writes != a || flushes != b {
		t.Fatalf("%d writes and %d flushes, want %d and %d", writes, flushes, a, b)
	}
}

func (w twins) write(t *testing.T, at, version int, value string) {
	t.Helper()
	want := w.p.write(t, w.told, at, version, value)
	if err := slots.Write(w.asked, at, version, value); err != want {
		t.Fatalf("Write at %d of version %d, %q: %v, want %v", at, version, value, err, want)
	}
}

// both does the same to both disks.
func (w twins) both(t *testing.T, do func(d *disk.Disk) error) {
	t.Helper()
	want := do(w.told)
	if err := do(w.asked); err != want {
		t.Fatalf("%v on one disk, %v on the other", err, want)
	}
}

func anyValue(rnd *rand.Rand) string {
	raw := make([]byte, rnd.IntN(api.MaxPayload+1))
	if rnd.IntN(2) == 0 {
		raw = raw[:min(len(raw), 3)]
	}
	for i := range raw {
		raw[i] = byte(rnd.Uint32N(3))
	}
	return string(raw)
}

// anyVersion is often small, so that both slots of a place are often written under versions near each other.
func anyVersion(rnd *rand.Rand) int {
	version := 1 + rnd.IntN(6)
	switch rnd.IntN(6) {
	case 0:
		version += 253
	case 1:
		version = max(1, version+1<<rnd.IntN(42)-4)
	}
	return version
}

// anyFate keeps some of the first writes, and tears none or any.
func anyFate(rnd *rand.Rand) api.Fate {
	f := api.Fate{Kept: make([]bool, rnd.IntN(6)), Torn: rnd.IntN(6) - 2, Bytes: rnd.IntN(260) - 2}
	if rnd.IntN(2) == 0 {
		f.Bytes = 246 + rnd.IntN(12)
	}
	for i := range f.Kept {
		f.Kept[i] = rnd.IntN(2) == 0
	}
	return f
}

// anyRaw is a sector of any stamp, those that are no versions among them, or one that is turned or torn.
func (p pool) anyRaw(t *testing.T, rnd *rand.Rand) string {
	raw := p.add(t, uint64(anyVersion(rnd)), anyValue(rnd))
	switch rnd.IntN(5) {
	case 0:
		raw = p.add(t, rnd.Uint64()>>rnd.IntN(62)|1<<41, anyValue(rnd))
	case 1:
		i := rnd.IntN(256)
		raw = raw[:i] + string([]byte{raw[i] ^ 1}) + raw[i+1:]
	case 2:
		i := 240 + rnd.IntN(16)
		raw = raw[:i] + p.add(t, uint64(anyVersion(rnd)), anyValue(rnd))[i:]
	}
	return raw
}

func (w twins) anyCall(t *testing.T, rnd *rand.Rand) {
	t.Helper()
	size := w.told.Size()
	switch n := rnd.IntN(20); {
	case n < 10:
		w.write(t, rnd.IntN(max(1, size-1)), anyVersion(rnd), anyValue(rnd))
	case n < 11:
		w.write(t, rnd.IntN(size+3)-2, anyVersion(rnd), anyValue(rnd))
	case n < 12:
		w.write(t, rnd.IntN(size), anyVersion(rnd), strings.Repeat("x", 230+rnd.IntN(10)))
	case n < 13:
		w.write(t, rnd.IntN(size), []int{-1, 0, 1, 1 << 40, 1<<40 + 1}[rnd.IntN(5)], anyValue(rnd))
	case n < 16:
		i, raw := rnd.IntN(size), w.p.anyRaw(t, rnd)
		w.both(t, func(d *disk.Disk) error { return d.Write(i, raw) })
	case n < 17:
		k := rnd.IntN(5) - 1
		w.both(t, func(d *disk.Disk) error { d.Arm(k); return nil })
	default:
		f := anyFate(rnd)
		w.both(t, func(d *disk.Disk) error { d.Crash(f); return nil })
	}
}

// TestAnyCalls asks for P8.1: any calls over any disk, beside a second way.
func TestAnyCalls(t *testing.T) {
	rnd := rand.New(rand.NewPCG(1, 2))
	found := map[error]int{}
	for range 1500 {
		size := 1 + rnd.IntN(5)
		w := twins{p: pool{}, asked: made(t, size), told: made(t, size)}
		for range 30 {
			w.anyCall(t, rnd)
			w.check(t)
			_, _, err := slots.Read(w.asked, 0)
			found[err]++
		}
	}
	for _, err := range []error{nil, api.ErrBlank, api.ErrDown, api.ErrRange} {
		if found[err] < 1000 {
			t.Errorf("Read answered %v only %d times", err, found[err])
		}
	}
}

// valueOf is the one value of a version: of unlike sizes, so that the bytes of neighbours differ in many places.
func valueOf(version int) string {
	return strings.Repeat(string([]byte{byte('a' + version%7)}), version*31%(api.MaxPayload+1))
}

// moment is where P8.2's writer can stand: what its two sectors are, the version of the last Write that answered nil, and of the one behind it that answered ErrDown (or the same, if there is none).
type moment struct {
	image      string
	good, down int
}

// read asks what P8.2 promises of a moment, and is the version that Read tells.
func (m moment) read(t *testing.T) int {
	t.Helper()
	value, version, err := slots.Read(from(t, m.image), 0)
	switch {
	case version != m.good && version != m.down:
		t.Fatalf("Read tells version %d, behind the writes of %d and %d", version, m.good, m.down)
	case version == 0 && (err != api.ErrBlank || value != ""):
		t.Fatalf("Read answers %q, 0, %v, behind the first Write", value, err)
	case version > 0 && (err != nil || value != valueOf(version)):
		t.Fatalf("Read answers %q, %d, %v, want %q", value, version, err, valueOf(version))
	}
	return version
}

// next are the moments to which a Write of a version leads: done, or cut off at its write or its flush and torn behind any number of bytes.
func (m moment) next(t *testing.T, version int) []moment {
	t.Helper()
	done := from(t, m.image)
	checkWrite(t, done, 0, version, valueOf(version), nil)
	out := []moment{{done.Image(), version, version}}
	for n := range api.SectorSize + 1 {
		d := from(t, m.image)
		d.Arm(n % 2)
		checkWrite(t, d, 0, version, valueOf(version), api.ErrDown)
		d.Crash(api.Fate{Torn: 0, Bytes: n})
		out = append(out, moment{d.Image(), version - 1, version})
	}
	return out
}

// reach are all moments to which the Writes of a version lead: what was cut off is written again from each of them, till no moment is new.
func reach(t *testing.T, starts []moment, version int) map[moment]bool {
	t.Helper()
	all := map[moment]bool{}
	for len(starts) > 0 {
		m := starts[len(starts)-1]
		starts = starts[:len(starts)-1]
		for _, n := range m.next(t, version) {
			if all[n] {
				continue
			}
			all[n] = true
			if n.good < version {
				starts = append(starts, n)
			}
		}
	}
	return all
}

// explore goes from a moment through all that can become of so many versions behind it.
func explore(t *testing.T, first moment, count int) {
	t.Helper()
	starts := []moment{first}
	for version := first.good + 1; version <= first.good+count; version++ {
		all := reach(t, starts, version)
		found := map[moment]bool{}
		for m := range all {
			if m.read(t) == version {
				// The next Write may come, whether this one answered nil or not.
				found[moment{m.image, version, version}] = true
			}
		}
		if len(all) < 20 || len(found) == 0 {
			t.Errorf("version %d: %d moments, of which %d go on", version, len(all), len(found))
		}
		starts = nil
		for m := range found {
			starts = append(starts, m)
		}
	}
}

// TestNothingBetween asks for P8.2: all tears of all writes, however often they are done again.
func TestNothingBetween(t *testing.T) {
	explore(t, moment{image: zeros + zeros}, 5)
	for _, version := range []int{254, 65534, 1<<24 - 2, 1<<32 - 2, 1<<40 - 4} {
		// What the versions up to this one leave: the last two of them, wherever they began.
		d := made(t, 2)
		checkWrite(t, d, 0, version-1, valueOf(version-1), nil)
		checkWrite(t, d, 0, version, valueOf(version), nil)
		explore(t, moment{d.Image(), version, version}, 4)
	}
}

// writer writes the versions 1, 2, 3, .. at one place of a disk on which more is written.
type writer struct {
	d          *disk.Disk
	at         int
	good, down int
}

// elsewhere puts some writes of other sectors under way, or flushes them.
func (w *writer) elsewhere(t *testing.T, rnd *rand.Rand) {
	t.Helper()
	for range rnd.IntN(3) {
		i := rnd.IntN(w.d.Size())
		if i == w.at || i == w.at+1 {
			continue
		}
		if err := w.d.Write(i, strings.Repeat(string([]byte{byte(rnd.Uint32())}), 256)); err != nil {
			t.Fatal(err)
		}
	}
}

// write is one Write of the version that is due, and behind ErrDown a crash.
func (w *writer) write(t *testing.T, rnd *rand.Rand, version int) {
	t.Helper()
	w.elsewhere(t, rnd)
	w.d.Arm(rnd.IntN(6) - 1)
	err := slots.Write(w.d, w.at, version, valueOf(version))
	w.d.Arm(-1)
	if err == nil {
		w.good, w.down = version, version
		return
	}
	if err != api.ErrDown {
		t.Fatalf("Write of version %d: %v", version, err)
	}
	w.good, w.down = version-1, version
	w.d.Crash(anyFate(rnd))
}

// read asks what P8.2 promises, and is the version that Read tells.
func (w *writer) read(t *testing.T) int {
	t.Helper()
	pair := w.d.Image()[w.at*api.SectorSize : (w.at+2)*api.SectorSize]
	version := moment{pair, w.good, w.down}.read(t)
	if value, v, _ := slots.Read(w.d, w.at); v != version || version > 0 && value != valueOf(version) {
		t.Fatalf("Read at %d tells %q, %d, want version %d", w.at, value, v, version)
	}
	return version
}

// TestLongLivesOfSlots asks for P8.2 and P8.3: thousands of versions, on a disk on which other writes are under way too.
func TestLongLivesOfSlots(t *testing.T) {
	rnd := rand.New(rand.NewPCG(3, 4))
	size, cutOff, went := 6, 0, 0
	for at := range size - 1 {
		w := &writer{d: made(t, size), at: at}
		for version := 1; version < 1500; {
			w.write(t, rnd, version)
			got := w.read(t)
			if w.good != version {
				cutOff++
			}
			if w.good == version {
				// Nothing is under way: no crash is to be seen.
				w.d.Crash(anyFate(rnd))
				w.read(t)
			}
			if got < version || w.good != version && rnd.IntN(2) == 0 {
				continue
			}
			if w.good != version {
				went++
			}
			version++
		}
	}
	if cutOff < 1000 || went < 200 {
		t.Errorf("%d writes were cut off, behind %d of them the next one came", cutOff, went)
	}
}

// TestWrittenStays asks for P8.3: whatever a life of tears left, behind a Write that answered nil no crash takes its value.
func TestWrittenStays(t *testing.T) {
	rnd := rand.New(rand.NewPCG(5, 6))
	for range 3000 {
		version := anyVersion(rnd)
		if version >= 1<<40 {
			continue
		}
		d := made(t, 2)
		for v := max(1, version-2); v < version; v++ {
			checkWrite(t, d, 0, v, valueOf(v), nil)
		}
		for range rnd.IntN(3) {
			d.Arm(rnd.IntN(2))
			checkWrite(t, d, 0, version, valueOf(version), api.ErrDown)
			d.Crash(anyFate(rnd))
		}
		checkWrite(t, d, 0, version, valueOf(version), nil)
		for range 3 {
			if rnd.IntN(2) == 0 {
				d.Arm(0)
				if err := d.Flush(); err != api.ErrDown {
					t.Fatal(err)
				}
			}
			d.Crash(anyFate(rnd))
			checkRead(t, d, 0, valueOf(version), version, nil)
		}
	}
}
