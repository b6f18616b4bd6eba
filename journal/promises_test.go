package journal_test

import (
	"maps"
	"math"
	"math/rand/v2"
	"remit/api"
	"remit/disk"
	"remit/journal"
	"slices"
	"strings"
	"testing"
)

// piece is what a sector counts as, whatever its place.
type piece struct {
	stamp   uint64
	payload string
}

// pool is all sectors that were ever made: what isn't in it counts as nothing (P7.2).
type pool map[string]piece

func (p pool) add(t *testing.T, stamp uint64, payload string) string {
	t.Helper()
	raw := sealed(t, stamp, payload)
	p[raw] = piece{stamp, payload}
	return raw
}

// question is where a log is asked for.
type question struct {
	at, n, version int
}

// refuse says by what error a question is refused, by going through the log's sectors one by one.
func refuse(d *disk.Disk, q question) error {
	if q.at < 0 || q.n < 0 || q.at > d.Size() || q.version < 1 || q.version > 1<<40 {
		return api.ErrRange
	}
	for i := range q.n {
		if q.at+i >= d.Size() {
			return api.ErrRange
		}
	}
	if d.Off() {
		return api.ErrDown
	}
	return nil
}

// record says what record begins in sector i of a log, and in how many sectors it lies: none, if no whole one begins there. Its bytes are gathered behind each other, with their number ahead of them.
func (p pool) record(d *disk.Disk, q question, i int) (string, int) {
	gathered, mark := "", "\x01"
	for k := i; k < q.n; k++ {
		raw, _ := d.Read(q.at + k)
		s, ok := p[raw]
		if !ok || s.stamp != stampOf(q.version, k) || !strings.HasPrefix(s.payload, mark) {
			return "", 0
		}
		gathered, mark = gathered+s.payload[1:], "\x00"
		if len(gathered) < 4 {
			return "", 0
		}
		switch need := gathered[:4]; {
		case need == four(len(gathered)-4):
			return gathered[4:], k - i + 1
		case len(s.payload) != 234:
			return "", 0
		}
	}
	return "", 0
}

func (p pool) replay(d *disk.Disk, q question) ([]string, error) {
	if err := refuse(d, q); err != nil {
		return nil, err
	}
	var out []string
	for i := 0; i < q.n; {
		record, sectors := p.record(d, q, i)
		if sectors == 0 {
			break
		}
		out = append(out, record)
		i += sectors
	}
	return out, nil
}

// model is what a Journal is said to hold.
type model struct {
	q          question
	used, life int
	dead       bool
}

// down says whether a call answers ErrDown, of which the journal is dead from then on.
func (m *model) down(d *disk.Disk) bool {
	m.dead = m.dead || d.Off() || d.Life() != m.life
	return m.dead
}

func (m *model) append(t *testing.T, p pool, d *disk.Disk, record string) error {
	t.Helper()
	if m.down(d) {
		return api.ErrDown
	}
	all := payloads(record)
	if len(all) > m.q.n-m.used {
		return api.ErrFull
	}
	for k, payload := range all {
		if err := d.Write(m.q.at+m.used+k, p.add(t, stampOf(m.q.version, m.used+k), payload)); err != nil {
			m.dead = true
			return err
		}
	}
	m.used += len(all)
	return nil
}

func (m *model) sync(d *disk.Disk) error {
	if m.down(d) {
		return api.ErrDown
	}
	err := d.Flush()
	m.dead = err != nil
	return err
}

// pair is a Journal and what it is said to hold.
type pair struct {
	j *journal.Journal
	m *model
}

func (x pair) check(t *testing.T) {
	t.Helper()
	if x.j.Used() != x.m.used {
		t.Fatalf("Used() = %d, want %d", x.j.Used(), x.m.used)
	}
	left := x.m.q.n - x.m.used
	for _, bytes := range []int{-1, 0, 229 + 233*(left-1), 230 + 233*(left-1), math.MaxInt} {
		want := bytes >= 0 && left > 0 && bytes <= 229+233*(left-1)
		if x.j.Fits(bytes) != want {
			t.Fatalf("Fits(%d) = %v, with %d of %d sectors used", bytes, !want, x.m.used, x.m.q.n)
		}
	}
}

// twins are two disks: on one of them the journals write, on the other the models do.
type twins struct {
	p           pool
	asked, told *disk.Disk
	pairs       []pair
	// last is the question of the last Begin.
	last question
	// found counts what the calls answered, and records how many records were told.
	found   map[string]int
	records int
}

func (w *twins) count(call string, err error) {
	if err != nil {
		call += ": " + err.Error()
	}
	w.found[call]++
}

func (w *twins) read(t *testing.T, q question) {
	t.Helper()
	want, wantErr := w.p.replay(w.told, q)
	got, err := journal.Replay(w.asked, q.at, q.n, q.version)
	if !slices.Equal(got, want) || err != wantErr {
		t.Fatalf("Replay of %v: %.60q, %v, want %.60q, %v", q, got, err, want, wantErr)
	}
	if got := told(t, journal.Each(w.asked, q.at, q.n, q.version)); !slices.Equal(got, want) {
		t.Fatalf("Each of %v: %.60q, want %.60q", q, got, want)
	}
	w.count("Replay", err)
	w.records += len(got)
}

func (w *twins) check(t *testing.T, rnd *rand.Rand) {
	t.Helper()
	w.read(t, w.last)
	for _, x := range w.pairs {
		x.check(t)
		w.read(t, x.m.q)
	}
	for range 4 {
		w.read(t, w.last.turned(rnd, w.told.Size()))
	}
	if w.asked.Image() != w.told.Image() || w.asked.Pending() != w.told.Pending() || w.asked.Off() != w.told.Off() || w.asked.Life() != w.told.Life() {
		t.Fatalf("the disk is another: %q, %d under way, off: %v; want %q, %d, %v", w.asked.Image(), w.asked.Pending(), w.asked.Off(), w.told.Image(), w.told.Pending(), w.told.Off())
	}
	writes, flushes := w.asked.Counts()
	if a, b := w.told.Counts(); writes != a || flushes != b {
		t.Fatalf("%d writes and %d flushes, want %d and %d", writes, flushes, a, b)
	}
}

// both does the same to both disks.
func (w *twins) both(t *testing.T, do func(d *disk.Disk) error) {
	t.Helper()
	want := do(w.told)
	if err := do(w.asked); err != want {
		t.Fatalf("%v on one disk, %v on the other", err, want)
	}
}

func (w *twins) begin(t *testing.T, q question) {
	t.Helper()
	want := refuse(w.told, q)
	j, err := journal.Begin(w.asked, q.at, q.n, q.version)
	if err != want || (j == nil) != (want != nil) {
		t.Fatalf("Begin of %v: %v, %v, want %v", q, j, err, want)
	}
	w.count("Begin", err)
	w.last = q
	if err == nil {
		w.pairs = append(w.pairs, pair{j, &model{q: q, life: w.told.Life()}})
	}
}

// turned is a question that is another in one thing, sometimes far off.
func (q question) turned(rnd *rand.Rand, size int) question {
	far := []int{math.MinInt, -1, 0, 1, size, size + 1, 1 << 40, 1<<40 + 1, 1 << 62, math.MaxInt}[rnd.IntN(10)]
	near := rnd.IntN(3) - 1
	switch rnd.IntN(6) {
	case 0:
		q.at = far
	case 1:
		q.at += near
	case 2:
		q.n = far
	case 3:
		q.n += near
	case 4:
		q.version = far
	case 5:
		q.version += near
	}
	return q
}

// anyVersion is one of few, so that one place is often written under one stamp again.
func anyVersion(rnd *rand.Rand) int {
	if rnd.IntN(5) == 0 {
		return 1<<40 - rnd.IntN(2)
	}
	return 1 + rnd.IntN(3)
}

// anyRecord is of a few bytes' kinds, and of a length about the ends of sectors as often as not.
func anyRecord(rnd *rand.Rand) string {
	size := rnd.IntN(20)
	switch rnd.IntN(4) {
	case 0:
		size = 227 + rnd.IntN(5)
	case 1:
		size = 460 + rnd.IntN(5)
	case 2:
		size = rnd.IntN(900)
	}
	raw := make([]byte, size)
	for i := range raw {
		raw[i] = byte(rnd.Uint32N(3))
	}
	return string(raw)
}

// anyFate keeps some of the first writes, and tears none or any.
func anyFate(rnd *rand.Rand) api.Fate {
	f := api.Fate{Kept: make([]bool, rnd.IntN(12)), Torn: rnd.IntN(12) - 2, Bytes: rnd.IntN(260) - 2}
	if rnd.IntN(2) == 0 {
		f.Bytes = 246 + rnd.IntN(12)
	}
	often := 1 + rnd.IntN(5)
	for i := range f.Kept {
		f.Kept[i] = rnd.IntN(5) < often
	}
	return f
}

// anyRaw is a sector that may stand in sector i of a log: of a record, or nearly so.
func (p pool) anyRaw(t *testing.T, rnd *rand.Rand, version, i int) string {
	all := payloads(anyRecord(rnd))
	payload := all[rnd.IntN(len(all))]
	switch rnd.IntN(4) {
	case 0:
		payload = payload[:rnd.IntN(len(payload))]
	case 1:
		k := rnd.IntN(min(6, len(payload)))
		payload = payload[:k] + string([]byte{payload[k] ^ 1}) + payload[k+1:]
	}
	raw := p.add(t, stampOf(version, i), payload)
	if rnd.IntN(5) == 0 {
		k := rnd.IntN(256)
		raw = raw[:k] + string([]byte{raw[k] ^ 1<<rnd.IntN(8)}) + raw[k+1:]
	}
	return raw
}

func (w *twins) anyCall(t *testing.T, rnd *rand.Rand) {
	t.Helper()
	size := w.told.Size()
	at := rnd.IntN(size + 1)
	q := question{at, rnd.IntN(size - at + 1), anyVersion(rnd)}
	x := w.pairs[rnd.IntN(len(w.pairs))]
	switch n := rnd.IntN(40); {
	case n < 4:
		w.begin(t, q)
	case n < 7:
		w.begin(t, q.turned(rnd, size))
	case n < 22:
		record := anyRecord(rnd)
		want := x.m.append(t, w.p, w.told, record)
		checkAppend(t, x.j, record, want)
		w.count("Append", want)
	case n < 27:
		want := x.m.sync(w.told)
		checkSync(t, x.j, want)
		w.count("Sync", want)
	case n < 31:
		i := rnd.IntN(size)
		raw := w.p.anyRaw(t, rnd, w.last.version, max(0, i-w.last.at))
		w.both(t, func(d *disk.Disk) error { return d.Write(i, raw) })
	case n < 36:
		k := rnd.IntN(9) - 1
		w.both(t, func(d *disk.Disk) error { d.Arm(k); return nil })
	case n < 38 || w.told.Off():
		f := anyFate(rnd)
		w.both(t, func(d *disk.Disk) error { d.Crash(f); return nil })
	}
}

// TestAnyCalls asks for P10.1: any calls over any disk, of several journals, beside a second way.
func TestAnyCalls(t *testing.T) {
	rnd := rand.New(rand.NewPCG(1, 2))
	found, records := map[string]int{}, 0
	for range 1500 {
		size := 1 + rnd.IntN(8)
		w := &twins{p: pool{}, asked: made(t, size), told: made(t, size), found: found}
		w.begin(t, question{0, size, 1})
		for range 40 {
			if len(w.pairs) > 3 {
				w.pairs = w.pairs[1:]
			}
			// The last question stays one that may be, so that it goes on telling something.
			if refuse(w.told, w.last) == api.ErrRange {
				w.last = w.pairs[0].m.q
			}
			w.anyCall(t, rnd)
			w.check(t, rnd)
		}
		records += w.records
	}
	for _, call := range []string{"Replay", "Replay: remit: down", "Replay: remit: range", "Begin", "Begin: remit: down", "Begin: remit: range", "Append", "Append: remit: down", "Append: remit: full", "Sync", "Sync: remit: down"} {
		if found[call] < 500 {
			t.Errorf("%s: only %d times", call, found[call])
		}
	}
	if len(found) != 11 || records < 40000 {
		t.Errorf("answers: %v; %d records were told", slices.Sorted(maps.Keys(found)), records)
	}
}

// TestThereAndBack asks for P10.2: records of all kinds until the log is full, flushed or not, in logs that follow each other at one place.
func TestThereAndBack(t *testing.T) {
	rnd := rand.New(rand.NewPCG(3, 4))
	most := 0
	for range 400 {
		size := 1 + rnd.IntN(30)
		d, at := made(t, size), rnd.IntN(size)
		n, version := rnd.IntN(size-at+1), 0
		for range 3 {
			version += 1 + rnd.IntN(1<<rnd.IntN(39))
			j := begun(t, d, at, n, version)
			checkLog(t, d, at, n, version)
			var records []string
			for refused := 0; refused < 3; {
				record := anyRecord(rnd)
				if !j.Fits(len(record)) {
					checkAppend(t, j, record, api.ErrFull)
					refused++
				} else {
					checkAppend(t, j, record, nil)
					records = append(records, record)
				}
				if rnd.IntN(3) == 0 {
					checkSync(t, j, nil)
				}
				checkLog(t, d, at, n, version, records...)
			}
			most = max(most, len(records))
		}
	}
	if most < 15 {
		t.Errorf("%d records at most stood in a log", most)
	}
}

// TestFitsIsNotFull asks for P10.5: each length about the ends of sectors, with each number of sectors used and left.
func TestFitsIsNotFull(t *testing.T) {
	for n := range 6 {
		for used := range n + 1 {
			for _, bytes := range append([]int{1162, 1163, 5000}, edges...) {
				d := made(t, n+1)
				j := begun(t, d, 1, n, 2)
				for range used {
					checkAppend(t, j, "u", nil)
				}
				fits := j.Fits(bytes)
				if want := len(payloads(text(bytes))) <= n-used; fits != want {
					t.Errorf("Fits(%d) = %v, with %d of %d sectors used", bytes, fits, used, n)
				}
				if err := j.Append(text(bytes)); fits && err != nil || !fits && err != api.ErrFull {
					t.Errorf("Append of %d bytes: %v, and Fits was %v", bytes, err, fits)
				}
			}
		}
	}
}

// TestCostOfLargest asks for P10.5: small numbers of sectors, and such about each power of two up to the bound.
func TestCostOfLargest(t *testing.T) {
	check := func(n int) {
		if most := journal.Largest(n); most != 233*n-4 || journal.Cost(most) != n || journal.Cost(most+1) != n+1 {
			t.Fatalf("Largest(%d) = %d, which costs %d; one more costs %d", n, most, journal.Cost(most), journal.Cost(most+1))
		}
	}
	for n := range 100000 {
		check(n + 1)
	}
	for n := 1; n <= 1<<40; n *= 2 {
		for near := max(1, n-3); near <= min(n+3, 1<<40); near++ {
			check(near)
		}
	}
	rnd := rand.New(rand.NewPCG(5, 6))
	for range 100000 {
		check(1 + rnd.IntN(1<<40))
	}
}

// written is a log as its caller knows it: the records that were appended (the last one's Append may have answered ErrDown), and how many of them were synced.
type written struct {
	q       question
	records []string
	synced  int
}

// checkBehindCrash asks P10.3 of a log, and tells how many of its records stand. These are the first ones of which all sectors stand.
func (w *written) checkBehindCrash(t *testing.T, d *disk.Disk) int {
	t.Helper()
	whole, i := 0, 0
	for stands := true; stands && whole < len(w.records); {
		for _, payload := range payloads(w.records[whole]) {
			raw, err := d.Read(w.q.at + i)
			if err != nil {
				t.Fatal(err)
			}
			stands = stands && raw == sealed(t, stampOf(w.q.version, i), payload)
			i++
		}
		if stands {
			whole++
		}
	}
	if whole < w.synced {
		t.Fatalf("%v: %d records stand, and %d were synced", w.q, whole, w.synced)
	}
	checkLog(t, d, w.q.at, w.q.n, w.q.version, w.records[:whole]...)
	return whole
}

// checkAbove asks P10.4 of a place in which no version above this one was begun.
func checkAbove(t *testing.T, d *disk.Disk, at, n, version int) {
	t.Helper()
	for _, above := range []int{version + 1, version + 2, version | 255, version | 65535, 2 * version, version + 1<<20, api.MaxVersion} {
		if above > version && above <= api.MaxVersion {
			checkLog(t, d, at, n, above)
		}
	}
}

// cut is what stands behind some records that were begun over an image, cut off at the write or flush arm; a Sync comes behind each record that is marked.
func cut(t *testing.T, image string, q question, records []string, marks []bool, arm int) (*disk.Disk, *written) {
	t.Helper()
	d := from(t, image)
	j, w := begun(t, d, q.at, q.n, q.version), &written{q: q}
	d.Arm(arm)
	for i, record := range records {
		err := j.Append(record)
		if err == nil || err == api.ErrDown {
			w.records = append(w.records, record)
		}
		if err == nil && marks[i] {
			err = j.Sync()
		}
		if err == api.ErrDown {
			break
		}
		if err != nil {
			t.Fatal(err)
		}
		if marks[i] {
			w.synced = len(w.records)
		}
	}
	return d, w
}

// allFates are all that a crash can make of some writes, but for tears far from a sector's ends.
func allFates(writes int, do func(f api.Fate)) {
	for mask := range 1 << writes {
		f := api.Fate{Torn: -1}
		for i := range writes {
			f.Kept = append(f.Kept, mask>>i&1 != 0)
		}
		do(f)
		for f.Torn = range writes {
			for f.Bytes = 0; f.Bytes <= 256 && !f.Kept[f.Torn]; f.Bytes++ {
				if f.Bytes < 16 || f.Bytes > 246 || f.Bytes == 128 {
					do(f)
				}
			}
		}
	}
}

// imagesOf are disks of 7 sectors over which a log of the version is begun: zeros, what a full log of the version before left, and what tears of such left.
func imagesOf(t *testing.T, version int) []string {
	t.Helper()
	out := []string{strings.Repeat(zeros, 7)}
	if version == 1 {
		return out
	}
	older := question{1, 5, version - 1}
	d, w := cut(t, out[0], older, []string{text(600), "b", "c"}, []bool{false, false, true}, -1)
	checkLog(t, d, 1, 5, version-1, w.records...)
	out = append(out, d.Image())
	for bytes := 247; bytes < 256; bytes += 2 {
		d, _ := cut(t, out[0], older, []string{text(600), "b", "c"}, []bool{false, false, true}, 5)
		d.Crash(api.Fate{Kept: []bool{true, true, true, true}, Torn: bytes % 5, Bytes: bytes})
		out = append(out, d.Image())
	}
	return out
}

// TestAllFates asks for P10.3 and P10.4: one log, cut off at each write and at each flush, with each fate.
func TestAllFates(t *testing.T) {
	records, marks := []string{"a", text(300), "", text(5)}, []bool{true, false, false, true}
	for _, version := range []int{1, 2, 16, 4096, api.MaxVersion} {
		found := map[int]int{}
		for k, image := range imagesOf(t, version) {
			// Of what tears left, the flush alone is asked: ahead of it all sectors are under way.
			for arm := range 8 {
				if k > 1 && arm != 6 {
					continue
				}
				q := question{1, 5, version}
				d, w := cut(t, image, q, records, marks, arm)
				under := d.Pending()
				allFates(under, func(f api.Fate) {
					d, w = cut(t, image, q, records, marks, arm)
					d.Crash(f)
					found[w.checkBehindCrash(t, d)]++
					checkAbove(t, d, 1, 5, version)
				})
				if want := []int{1, 1, 1, 2, 3, 4, 4, 0}[arm]; under != want || w.synced != []int{0, 0, 1, 1, 1, 1, 1, 4}[arm] {
					t.Fatalf("armed %d, %d writes are under way, want %d; %d records synced", arm, under, want, w.synced)
				}
			}
		}
		for n := range 5 {
			if found[n] < 1 || n < 4 && found[n] < 5 {
				t.Errorf("version %d: how often so many records stood: %v", version, found)
			}
		}
	}
}

// life is a place at which logs follow each other under rising versions.
type life struct {
	j *journal.Journal
	w *written
}

// begin begins the next version's log, one above or far.
func (l *life) begin(t *testing.T, rnd *rand.Rand, d *disk.Disk) {
	t.Helper()
	step := 1
	if rnd.IntN(4) == 0 {
		step += rnd.IntN(1 << rnd.IntN(33))
	}
	q := l.w.q
	q.version += step
	l.j, l.w = begun(t, d, q.at, q.n, q.version), &written{q: q}
}

// step is one call of the log; the answers are whether it was a Sync that was done, and whether the log is full.
func (l *life) step(t *testing.T, rnd *rand.Rand) (bool, bool) {
	t.Helper()
	if rnd.IntN(4) == 0 {
		err := l.j.Sync()
		if err != nil && err != api.ErrDown {
			t.Fatalf("Sync: %v", err)
		}
		return err == nil, false
	}
	record := anyRecord(rnd)
	switch err := l.j.Append(record); err {
	case nil, api.ErrDown:
		l.w.records = append(l.w.records, record)
		return false, false
	case api.ErrFull:
		return false, true
	default:
		t.Fatalf("Append of %d bytes: %v", len(record), err)
	}
	return false, false
}

// lives are two places on one disk: the flush of one log makes the other's records durable too.
func lives(t *testing.T, rnd *rand.Rand) (*disk.Disk, []*life) {
	t.Helper()
	a, b := 1+rnd.IntN(6), 1+rnd.IntN(12)
	d := made(t, a+b+3)
	all := []*life{{w: &written{q: question{1, a, rnd.IntN(300)}}}, {w: &written{q: question{a + 2, b, rnd.IntN(1 << 20)}}}}
	for _, l := range all {
		l.begin(t, rnd, d)
	}
	return d, all
}

// checkLives asks P10.2 and P10.4 of both places while the power is on.
func checkLives(t *testing.T, d *disk.Disk, all []*life) {
	t.Helper()
	for _, l := range all {
		q := l.w.q
		if !d.Off() {
			checkLog(t, d, q.at, q.n, q.version, l.w.records...)
			checkAbove(t, d, q.at, q.n, q.version)
		}
	}
}

// crash asks P10.3 and P10.4 of both places, and begins anew at both; the answer is how many records stood, and how many of these weren't synced.
func crash(t *testing.T, rnd *rand.Rand, d *disk.Disk, all []*life) (int, int) {
	t.Helper()
	d.Crash(anyFate(rnd))
	stood, lucky := 0, 0
	for _, l := range all {
		n := l.w.checkBehindCrash(t, d)
		stood, lucky = stood+n, lucky+n-l.w.synced
		checkAbove(t, d, l.w.q.at, l.w.q.n, l.w.q.version)
	}
	for _, l := range all {
		l.begin(t, rnd, d)
	}
	return stood, lucky
}

// TestLongLives asks for P10.2 to P10.4: logs over what tears and other logs left, at two places of one disk.
func TestLongLives(t *testing.T) {
	rnd := rand.New(rand.NewPCG(7, 8))
	crashes, stood, lucky := 0, 0, 0
	for range 80 {
		d, all := lives(t, rnd)
		for range 300 {
			l := all[rnd.IntN(2)]
			if rnd.IntN(4) == 0 {
				d.Arm(rnd.IntN(6))
			}
			synced, full := l.step(t, rnd)
			if synced {
				for _, other := range all {
					other.w.synced = len(other.w.records)
				}
			}
			checkLives(t, d, all)
			if d.Off() || rnd.IntN(20) == 0 {
				s, n := crash(t, rnd, d, all)
				crashes, stood, lucky = crashes+1, stood+s, lucky+n
			} else if full {
				l.begin(t, rnd, d)
			}
		}
	}
	if crashes < 3000 || stood < 2000 || lucky < 300 {
		t.Errorf("%d crashes, behind which %d records stood, %d of them not synced", crashes, stood, lucky)
	}
}
