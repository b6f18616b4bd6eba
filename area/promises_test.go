package area_test

import (
	"math"
	"math/rand/v2"
	"remit/api"
	"remit/area"
	"remit/disk"
	"strings"
	"testing"
)

// piece is what a sector counts as, whatever its place.
type piece struct {
	stamp   uint64
	payload string
}

// pool is all sectors that were ever made: what isn't in it counts as nothing (P7.2).
type pool map[string]piece

func (p pool) add(t *testing.T, stamp uint64, payload string) string {
	t.Helper()
	raw := sealed(t, stamp, payload)
	p[raw] = piece{stamp, payload}
	return raw
}

// question is what Read is asked.
type question struct {
	at, n int
	stamp uint64
	bytes int
}

// refuse says by what error a call is refused, by going through the place's sectors one by one.
func refuse(d *disk.Disk, q question) error {
	if q.stamp == 0 || q.at < 0 || q.n < 0 || q.bytes < 0 || q.at > d.Size() {
		return api.ErrRange
	}
	room := 0
	for i := range q.n {
		if q.at+i >= d.Size() {
			return api.ErrRange
		}
		room += 234
	}
	if q.bytes > room {
		return api.ErrLimit
	}
	if d.Off() {
		return api.ErrDown
	}
	return nil
}

// read says what Read of a disk answers, by the pool.
func (p pool) read(d *disk.Disk, q question) (string, error) {
	if err := refuse(d, q); err != nil {
		return "", err
	}
	value := ""
	for i := q.at; len(value) < q.bytes; i++ {
		raw, _ := d.Read(i)
		s, ok := p[raw]
		if !ok || s.stamp != q.stamp || len(s.payload) != min(234, q.bytes-len(value)) {
			return "", api.ErrCorrupt
		}
		value += s.payload
	}
	return value, nil
}

// write does on a disk what Write does, by the disk's own calls.
func (p pool) write(t *testing.T, d *disk.Disk, q question, value string) error {
	t.Helper()
	if err := refuse(d, q); err != nil {
		return err
	}
	for i := q.at; value != ""; i++ {
		size := min(234, len(value))
		if err := d.Write(i, p.add(t, q.stamp, value[:size])); err != nil {
			return err
		}
		value = value[size:]
	}
	return d.Flush()
}

// twins are two disks: on one of them area writes, on the other the pool does.
type twins struct {
	p           pool
	asked, told *disk.Disk
	// last is the question of the last Write, whether it was refused or not.
	last question
	// found counts what Read answered.
	found map[error]int
}

func (w *twins) read(t *testing.T, q question) {
	t.Helper()
	want, wantErr := w.p.read(w.told, q)
	got, err := area.Read(w.asked, q.at, q.n, q.stamp, q.bytes)
	if got != want || err != wantErr {
		t.Fatalf("Read of %v: %.20q of %d, %v, want %.20q of %d, %v", q, got, len(got), err, want, len(want), wantErr)
	}
	w.found[err]++
}

func (w *twins) check(t *testing.T, rnd *rand.Rand) {
	t.Helper()
	w.read(t, w.last)
	for range 8 {
		q := w.last
		for range rnd.IntN(3) {
			q = q.turned(rnd, w.told.Size())
		}
		w.read(t, q)
	}
	if w.asked.Image() != w.told.Image() || w.asked.Pending() != w.told.Pending() || w.asked.Off() != w.told.Off() {
		t.Fatalf("the disk is another: %q, %d under way, off: %v; want %q, %d, %v", w.asked.Image(), w.asked.Pending(), w.asked.Off(), w.told.Image(), w.told.Pending(), w.told.Off())
	}
	writes, flushes := w.asked.Counts()
	if a, b := w.told.Counts(); writes != a || flushes != b {
		t.Fatalf("%d writes and %d flushes, want %d and %d", writes, flushes, a, b)
	}
}

func (w *twins) write(t *testing.T, q question, value string) {
	t.Helper()
	q.bytes = len(value)
	want := w.p.write(t, w.told, q, value)
	if err := area.Write(w.asked, q.at, q.n, q.stamp, value); err != want {
		t.Fatalf("Write of %v: %v, want %v", q, err, want)
	}
	w.last = q
}

// both does the same to both disks.
func (w *twins) both(t *testing.T, do func(d *disk.Disk) error) {
	t.Helper()
	want := do(w.told)
	if err := do(w.asked); err != want {
		t.Fatalf("%v on one disk, %v on the other", err, want)
	}
}

// turned is a question that is another in one thing, sometimes far off.
func (q question) turned(rnd *rand.Rand, size int) question {
	far := []int{math.MinInt, -1, 0, 1, size, size + 1, 1 << 62, math.MaxInt}[rnd.IntN(8)]
	switch rnd.IntN(9) {
	case 0:
		q.at = far
	case 1:
		q.at += rnd.IntN(3) - 1
	case 2:
		q.n = far
	case 3:
		q.n += rnd.IntN(3) - 1
	case 4:
		q.stamp = anyStamp(rnd)
	case 5:
		q.stamp += uint64(rnd.IntN(3)) - 1
	case 6:
		q.bytes = far
	case 7:
		q.bytes += rnd.IntN(3) - 1
	default:
		q.bytes = q.bytes / 234 * 234
	}
	return q
}

// anyStamp is often small, so that sectors of one place are often written under one stamp again.
func anyStamp(rnd *rand.Rand) uint64 {
	stamp := 1 + rnd.Uint64N(4)
	switch rnd.IntN(6) {
	case 0:
		stamp += 253
	case 1:
		stamp = rnd.Uint64() >> rnd.IntN(64)
	case 2:
		stamp = math.MaxUint64 - rnd.Uint64N(2)
	}
	return stamp
}

// anyValue is of a few bytes' kinds, and of a length near the end of a piece as often as not.
func anyValue(rnd *rand.Rand, most int) string {
	size := rnd.IntN(max(1, most+1))
	if rnd.IntN(2) == 0 {
		size = max(0, min(most, (size+117)/234*234+rnd.IntN(3)-1))
	}
	raw := make([]byte, size)
	for i := range raw {
		raw[i] = byte(rnd.Uint32N(3))
	}
	return string(raw)
}

// anyFate keeps some of the first writes, and tears none or any.
func anyFate(rnd *rand.Rand) api.Fate {
	f := api.Fate{Kept: make([]bool, rnd.IntN(8)), Torn: rnd.IntN(8) - 2, Bytes: rnd.IntN(260) - 2}
	if rnd.IntN(2) == 0 {
		f.Bytes = 246 + rnd.IntN(12)
	}
	often := 1 + rnd.IntN(4)
	for i := range f.Kept {
		f.Kept[i] = rnd.IntN(5) < often
	}
	return f
}

// anyRaw is a sector of any stamp and payload, or one that is turned or torn.
func (p pool) anyRaw(t *testing.T, rnd *rand.Rand) string {
	raw := p.add(t, max(1, anyStamp(rnd)), anyValue(rnd, 234))
	switch rnd.IntN(4) {
	case 0:
		i := rnd.IntN(256)
		raw = raw[:i] + string([]byte{raw[i] ^ 1}) + raw[i+1:]
	case 1:
		i := 240 + rnd.IntN(16)
		raw = raw[:i] + p.add(t, max(1, anyStamp(rnd)), anyValue(rnd, 234))[i:]
	}
	return raw
}

func (w *twins) anyCall(t *testing.T, rnd *rand.Rand) {
	t.Helper()
	size := w.told.Size()
	at := rnd.IntN(size + 1)
	q := question{at: at, n: rnd.IntN(size - at + 1), stamp: max(1, anyStamp(rnd))}
	switch n := rnd.IntN(20); {
	case n < 9:
		w.write(t, q, anyValue(rnd, q.n*234))
	case n < 10:
		w.write(t, q, anyValue(rnd, q.n*234+5))
	case n < 12:
		w.write(t, q.turned(rnd, size), anyValue(rnd, q.n*234))
	case n < 15:
		i, raw := rnd.IntN(size), w.p.anyRaw(t, rnd)
		w.both(t, func(d *disk.Disk) error { return d.Write(i, raw) })
	case n < 17:
		k := rnd.IntN(7) - 1
		w.both(t, func(d *disk.Disk) error { d.Arm(k); return nil })
	default:
		f := anyFate(rnd)
		w.both(t, func(d *disk.Disk) error { d.Crash(f); return nil })
	}
}

// TestAnyCalls asks for P9.1: any calls over any disk, beside a second way.
func TestAnyCalls(t *testing.T) {
	rnd := rand.New(rand.NewPCG(1, 2))
	found := map[error]int{}
	for range 1000 {
		size := 1 + rnd.IntN(6)
		w := &twins{p: pool{}, asked: made(t, size), told: made(t, size), found: found}
		for range 30 {
			w.anyCall(t, rnd)
			w.check(t, rnd)
		}
	}
	for _, err := range []error{nil, api.ErrCorrupt, api.ErrDown, api.ErrRange, api.ErrLimit} {
		if found[err] < 10000 {
			t.Errorf("Read answered %v only %d times", err, found[err])
		}
	}
}

// held is a value that a Write answered nil of, no sector of which was written since.
type held struct {
	q     question
	value string
}

// touches tells whether the value lies in any of so many sectors from at on.
func (h held) touches(at, sectors int) bool {
	return at < h.q.at+area.Sectors(h.q.bytes) && h.q.at < at+sectors
}

// kept are the values that are held yet, once so many sectors from at on were written.
func kept(all []held, at, sectors int) []held {
	var out []held
	for _, h := range all {
		if !h.touches(at, sectors) {
			out = append(out, h)
		}
	}
	return out
}

// checkHeld asks P9.2 of each value.
func checkHeld(t *testing.T, d *disk.Disk, all []held) {
	t.Helper()
	for _, h := range all {
		if got, err := area.Read(d, h.q.at, h.q.n, h.q.stamp, h.q.bytes); got != h.value || err != nil {
			t.Fatalf("Read of %v: %.20q of %d, %v, want %.20q", h.q, got, len(got), err, h.value)
		}
	}
}

// TestWrittenStays asks for P9.2: values at places that lie across each other, any stamps, other writes and crashes among them.
func TestWrittenStays(t *testing.T) {
	rnd := rand.New(rand.NewPCG(3, 4))
	most, asked := 0, 0
	for range 600 {
		size := 3 + rnd.IntN(12)
		d := made(t, size)
		var all []held
		for range 25 {
			at := rnd.IntN(size)
			n := rnd.IntN(min(5, size-at+1))
			value := anyValue(rnd, n*234)
			q := question{at, n, max(1, anyStamp(rnd)), len(value)}
			d.Arm(rnd.IntN(30) - 15)
			switch {
			case rnd.IntN(3) == 0:
				if err := d.Write(at, strings.Repeat("w", 256)); err != nil && err != api.ErrDown {
					t.Fatal(err)
				}
				all = kept(all, at, 1)
			default:
				err := area.Write(d, at, n, q.stamp, value)
				all = kept(all, at, area.Sectors(len(value)))
				if err == nil {
					all = append(all, held{q, value})
				} else if err != api.ErrDown {
					t.Fatalf("Write of %v: %v", q, err)
				}
			}
			if d.Off() || rnd.IntN(4) == 0 {
				d.Crash(anyFate(rnd))
			}
			checkHeld(t, d, all)
			most, asked = max(most, len(all)), asked+len(all)
		}
	}
	if most < 5 || asked < 20000 {
		t.Errorf("%d values at most were held at a time, %d asked for", most, asked)
	}
}

// checkCut asks P9.3 of a disk on which a Write was cut off, and tells whether the value stands. It stands just if all of its sectors are done.
func checkCut(t *testing.T, d *disk.Disk, q question, value string) bool {
	t.Helper()
	whole := true
	for i, rest := q.at, value; rest != ""; i++ {
		size := min(234, len(rest))
		raw, err := d.Read(i)
		if err != nil {
			t.Fatal(err)
		}
		whole = whole && raw == sealed(t, q.stamp, rest[:size])
		rest = rest[size:]
	}
	got, err := area.Read(d, q.at, q.n, q.stamp, q.bytes)
	if whole && (got != value || err != nil) || !whole && (got != "" || err != api.ErrCorrupt) {
		t.Fatalf("Read of %v: %.20q of %d, %v; the value stands: %v", q, got, len(got), err, whole)
	}
	return whole
}

// cut is what a Write over an image leaves that was cut off at the write or flush arm, and then had this fate.
func cut(t *testing.T, image string, q question, value string, arm int, f api.Fate) *disk.Disk {
	t.Helper()
	d := from(t, image)
	d.Arm(arm)
	checkWrite(t, d, q.at, q.n, q.stamp, value, api.ErrDown)
	d.Crash(f)
	return d
}

// allFates are all that a crash can make of three writes: each kept or lost, and one or none torn at any byte.
func allFates(do func(f api.Fate)) {
	for mask := range 8 {
		f := api.Fate{Kept: []bool{mask&1 != 0, mask&2 != 0, mask&4 != 0}, Torn: -1}
		do(f)
		for f.Torn = range 3 {
			// What Kept says of the torn one is not looked at.
			for f.Bytes = 0; f.Bytes <= 256 && !f.Kept[f.Torn]; f.Bytes++ {
				do(f)
			}
		}
	}
}

// TestAllTears asks for P9.3: one Write, cut off at each write and at the flush, with each fate, over zeros, over an older value, and over what cut off writes left.
func TestAllTears(t *testing.T) {
	for _, x := range []struct{ old, fresh uint64 }{{1, 2}, {255, 256}, {256, 257}, {511, 512}, {1<<32 - 1, 1 << 32}, {1, 1 << 40}, {1<<40 + 1, 1<<40 + 256}, {1<<56 - 1, 1 << 56}, {math.MaxUint64 - 1, math.MaxUint64}} {
		value := text(500)
		q := question{1, 3, x.fresh, 500}
		older := question{1, 3, x.old, 600}
		d := made(t, 4)
		checkWrite(t, d, 1, 3, x.old, text(600), nil)
		images := []string{strings.Repeat(zeros, 4), d.Image()}
		// The same bytes under an older stamp, and what tears of such left.
		e := made(t, 4)
		checkWrite(t, e, 1, 3, x.old, value, nil)
		images = append(images, e.Image())
		for n := 246; n < 256; n++ {
			images = append(images, cut(t, images[0], older, value+text(100), 3, api.Fate{Kept: []bool{true, true}, Torn: 2, Bytes: n}).Image())
		}
		stood, fell := 0, 0
		for k, image := range images {
			for arm := range 4 {
				if k > 2 && arm < 3 {
					continue
				}
				allFates(func(f api.Fate) {
					if k > 1 && f.Torn >= 0 && f.Bytes < 240 {
						return
					}
					if checkCut(t, cut(t, image, q, value, arm, f), q, value) {
						stood++
					} else {
						fell++
					}
				})
			}
		}
		if stood < 20 || fell < 1000 {
			t.Errorf("stamps %v: %d times the value stood, %d times it didn't", x, stood, fell)
		}
	}
}

// life is a disk on which values are written under stamps that rise.
type life struct {
	d     *disk.Disk
	stamp uint64
	// tops are, by sector, the greatest stamps that were written there in whatever part.
	tops []uint64
}

// rise goes to a greater stamp, by one or by far.
func (l *life) rise(rnd *rand.Rand) {
	step := uint64(1)
	if rnd.IntN(3) == 0 {
		step = 1 + rnd.Uint64N(1<<rnd.IntN(45))
	}
	l.stamp += step
}

// underWay puts some sectors of lower stamps under way, which the next flush or crash decides of too.
func (l *life) underWay(t *testing.T, rnd *rand.Rand) {
	t.Helper()
	for range rnd.IntN(3) {
		l.rise(rnd)
		i := rnd.IntN(l.d.Size())
		if err := l.d.Write(i, sealed(t, l.stamp, anyValue(rnd, 234))); err != nil {
			t.Fatal(err)
		}
		l.tops[i] = l.stamp
	}
}

// write is one Write under a new stamp, cut off or not, and done again under the same one at times; the answers are how often it was cut off, and how often the value stood then.
func (l *life) write(t *testing.T, rnd *rand.Rand) (int, int) {
	t.Helper()
	l.underWay(t, rnd)
	l.rise(rnd)
	at := rnd.IntN(l.d.Size())
	n := 1 + rnd.IntN(min(4, l.d.Size()-at))
	value := anyValue(rnd, n*234)
	q := question{at, n, l.stamp, len(value)}
	cuts, stood := 0, 0
	for again := true; again; again = rnd.IntN(3) == 0 {
		l.d.Arm(rnd.IntN(n + 2))
		err := area.Write(l.d, at, n, q.stamp, value)
		l.d.Arm(-1)
		if err == nil {
			checkHeld(t, l.d, []held{{q, value}})
			break
		}
		if err != api.ErrDown {
			t.Fatalf("Write of %v: %v", q, err)
		}
		l.d.Crash(anyFate(rnd))
		cuts++
		if checkCut(t, l.d, q, value) && value != "" {
			stood++
		}
	}
	for i := range area.Sectors(len(value)) {
		l.tops[at+i] = q.stamp
	}
	return cuts, stood
}

// checkNothingGreater asks for stamps that were never written: nothing counts under them, and under the greatest of a place just what was written there.
func (l *life) checkNothingGreater(t *testing.T) {
	t.Helper()
	for i, top := range l.tops {
		for _, stamp := range []uint64{top + 1, top | 255, top | 65535, l.stamp + 1} {
			for _, bytes := range []int{1, 233, 234} {
				if stamp > top {
					checkRead(t, l.d, i, 1, stamp, bytes, "", api.ErrCorrupt)
				}
			}
		}
	}
}

// TestLongLives asks for P9.3: places that lie across each other, tears over tears, each Write under a stamp above all before it.
func TestLongLives(t *testing.T) {
	rnd := rand.New(rand.NewPCG(5, 6))
	cuts, stood := 0, 0
	for range 150 {
		size := 2 + rnd.IntN(8)
		l := &life{d: made(t, size), tops: make([]uint64, size), stamp: rnd.Uint64() >> (1 + rnd.IntN(60))}
		for range 100 {
			c, s := l.write(t, rnd)
			cuts, stood = cuts+c, stood+s
			l.checkNothingGreater(t)
		}
	}
	if cuts < 8000 || stood < 500 {
		t.Errorf("%d writes were cut off, %d values stood then", cuts, stood)
	}
}
