package store_test

import (
	"encoding/binary"
	"maps"
	"math/rand/v2"
	"remit/api"
	"remit/area"
	"remit/batch"
	"remit/disk"
	"remit/journal"
	"remit/sector"
	"remit/slots"
	"remit/store"
	"slices"
	"strconv"
	"strings"
	"testing"
)

// model is a store said again: it writes by the disk's own calls.
type model struct {
	d                   *disk.Disk
	rows                map[string]string
	version, used, life int
}

// flushed writes payloads from one sector on, each under the stamp of its place, and flushes.
func flushed(t *testing.T, d *disk.Disk, at int, stamp func(i int) uint64, payloads ...string) error {
	t.Helper()
	for i, payload := range payloads {
		if err := d.Write(at+i, sealed(t, stamp(i), payload)); err != nil {
			return err
		}
	}
	return d.Flush()
}

// snapshot makes a snapshot.
func snapshot(t *testing.T, d *disk.Disk, version int, rows map[string]string) error {
	t.Helper()
	bytes := snapshotOf(rows)
	same := func(int) uint64 { return uint64(version) }
	if err := flushed(t, d, areaAt(d.Size(), version), same, pieces(bytes)...); err != nil {
		return err
	}
	return flushed(t, d, version%2, same, varint(d.Size())+varint(len(bytes)))
}

func modelFormat(t *testing.T, d *disk.Disk, ops []api.Op) error {
	t.Helper()
	if d.Size() < 64 {
		return api.ErrSmall
	}
	if _, _, err := slots.Read(d, 0); err != api.ErrBlank {
		if err == nil {
			return api.ErrExists
		}
		return err
	}
	rows := applied(noRows(), ops...)
	if len(snapshotOf(rows)) > roomOf(d.Size()) {
		return api.ErrFull
	}
	return snapshot(t, d, 1, rows)
}

// parse says of which rows these bytes are the snapshot.
func parse(bytes string) (map[string]string, bool) {
	rows, left := noRows(), bytes
	number := func() (int, bool) {
		x, n := binary.Uvarint([]byte(left))
		if n <= 0 || x > 1<<62 {
			return 0, false
		}
		left = left[n:]
		return int(x), true
	}
	part := func() (string, bool) {
		n, ok := number()
		if !ok || n > len(left) {
			return "", false
		}
		out := left[:n]
		left = left[n:]
		return out, true
	}
	many, ok := number()
	for i := 0; ok && i < many; i++ {
		key, there := part()
		rows[key], ok = part()
		ok = ok && there
	}
	return rows, ok && snapshotOf(rows) == bytes
}

// lying says what lies on a disk.
func lying(d *disk.Disk) (*model, error) {
	n := d.Size()
	if n < 64 {
		return nil, api.ErrSmall
	}
	value, version, err := slots.Read(d, 0)
	if err != nil {
		return nil, err
	}
	bytes := -1
	for size := 0; size <= roomOf(n); size++ {
		if value == varint(n)+varint(size) {
			bytes = size
		}
	}
	raw, err := area.Read(d, areaAt(n, version), (n-2)/3, uint64(version), bytes)
	rows, ok := parse(raw)
	records, _ := journal.Replay(d, logAt(n), logN(n), version)
	for _, record := range records {
		ops, err := batch.Decode(record)
		ok = ok && err == nil
		rows = applied(rows, ops...)
	}
	if bytes < 0 || err != nil || !ok || len(snapshotOf(rows)) > roomOf(n) {
		return nil, api.ErrCorrupt
	}
	if version == 1<<40 {
		return nil, api.ErrWorn
	}
	return &model{d: d, rows: rows, version: version, life: d.Life()}, nil
}

func modelOpen(t *testing.T, d *disk.Disk) (*model, error) {
	t.Helper()
	m, err := lying(d)
	if err != nil {
		return nil, err
	}
	m.version++
	if err := snapshot(t, d, m.version, m.rows); err != nil {
		return nil, err
	}
	return m, nil
}

func (m *model) down() bool { return m.d.Off() || m.d.Life() != m.life }

func (m *model) compact(t *testing.T) error {
	t.Helper()
	if m.down() {
		return api.ErrDown
	}
	if m.version == 1<<40 {
		return api.ErrWorn
	}
	if err := snapshot(t, m.d, m.version+1, m.rows); err != nil {
		return err
	}
	m.version, m.used = m.version+1, 0
	return nil
}

func (m *model) commit(t *testing.T, ops []api.Op) error {
	t.Helper()
	if m.down() {
		return api.ErrDown
	}
	if len(ops) == 0 {
		return nil
	}
	record, n, next := recordOf(ops...), m.d.Size(), applied(m.rows, ops...)
	if len(record) > largestOf(n) {
		return api.ErrLarge
	}
	if len(snapshotOf(next)) > roomOf(n) {
		return api.ErrFull
	}
	version, used, all := m.version, m.used, payloads(record)
	if used+len(all) > logN(n) {
		if version == 1<<40 {
			return api.ErrWorn
		}
		version, used = version+1, 0
		if err := snapshot(t, m.d, version, m.rows); err != nil {
			return err
		}
	}
	stamp := func(i int) uint64 { return uint64(version)<<20 + uint64(used+i) + 1 }
	if err := flushed(t, m.d, logAt(n)+used, stamp, all...); err != nil {
		return err
	}
	m.rows, m.version, m.used = next, version, used+len(all)
	return nil
}

// twins are two disks: over one of them the store works, over the other its model.
type twins struct {
	asked, told *disk.Disk
	s           *store.Store
	m           *model
	// found counts what the calls answered.
	found map[string]int
}

// same asks whether two answers are one, and counts it.
func (w *twins) same(t *testing.T, call string, got, want error) {
	t.Helper()
	if got != want {
		t.Fatalf("%s: %v, want %v", call, got, want)
	}
	if want != nil {
		call += ": " + want.Error()
	}
	w.found[call]++
}

func (w *twins) check(t *testing.T) {
	t.Helper()
	if stillOf(w.asked) != stillOf(w.told) {
		t.Fatal("the disk is another, or its counts are")
	}
	if w.s != nil {
		checkStore(t, w.s, w.told.Size(), w.m.version, w.m.rows)
	}
}

func (w *twins) open(t *testing.T) {
	t.Helper()
	m, want := modelOpen(t, w.told)
	s, err := store.Open(w.asked)
	w.same(t, "Open", err, want)
	if (s == nil) != (err != nil) {
		t.Fatalf("Open: %v beside %v", s, err)
	}
	w.s, w.m = s, m
}

func (w *twins) format(t *testing.T, ops []api.Op) {
	t.Helper()
	want := modelFormat(t, w.told, ops)
	w.same(t, "Format", store.Format(w.asked, ops), want)
}

// both does the same to both disks.
func (w *twins) both(do func(d *disk.Disk)) {
	do(w.asked)
	do(w.told)
}

// anyValue is short as often as not, and long enough for several sectors, for the room or for the log seldom.
func anyValue(rnd *rand.Rand, room int) string {
	size := rnd.IntN(6)
	switch rnd.IntN(8) {
	case 0:
		size = 120 + rnd.IntN(12)
	case 1:
		size = 215 + rnd.IntN(25)
	case 2:
		size = rnd.IntN(900)
	case 3:
		size = room/(1+rnd.IntN(4)) - rnd.IntN(30)
	case 4:
		size = room + rnd.IntN(600)
		if rnd.IntN(3) > 0 {
			size = 0
		}
	}
	return strings.Repeat(string([]byte{byte(rnd.Uint32())}), size)
}

// anyOps are some, over few keys.
func anyOps(rnd *rand.Rand, n int) []api.Op {
	var out []api.Op
	for range rnd.IntN(5) {
		key := []string{"", "a", "b", "ba", "\xff", "c\x00"}[rnd.IntN(6)]
		switch rnd.IntN(8) {
		case 0, 1, 2:
			out = append(out, api.Op{Delete: true, Key: key, Value: strings.Repeat("n", rnd.IntN(3))})
		case 3:
			out = append(out, put(key+strconv.Itoa(rnd.IntN(200)), ""))
		case 4:
			out = append(out, gone(anyValue(rnd, roomOf(n))))
		default:
			out = append(out, put(key, anyValue(rnd, roomOf(n))))
		}
	}
	return out
}

// anyFate keeps some of the first writes, and tears none or any.
func anyFate(rnd *rand.Rand) api.Fate {
	f := api.Fate{Kept: make([]bool, rnd.IntN(30)), Torn: rnd.IntN(30) - 5, Bytes: rnd.IntN(260) - 2}
	if rnd.IntN(2) == 0 {
		f.Bytes = 246 + rnd.IntN(12)
	}
	if rnd.IntN(2) == 0 {
		f.Torn = rnd.IntN(3)
	}
	often := rnd.IntN(6)
	for i := range f.Kept {
		f.Kept[i] = rnd.IntN(5) < often
	}
	return f
}

func (w *twins) anyCall(t *testing.T, rnd *rand.Rand) {
	t.Helper()
	ops := anyOps(rnd, w.told.Size())
	switch k := rnd.IntN(40); {
	case w.told.Off() && k < 20:
		f := anyFate(rnd)
		w.both(func(d *disk.Disk) { d.Crash(f) })
	case (w.s == nil || w.m.down()) && k < 15:
		w.open(t)
	case k < 25 && w.s != nil:
		if got, want := w.s.After(ops), len(snapshotOf(applied(w.m.rows, ops...))); got != want {
			t.Fatalf("After() = %d, want %d", got, want)
		}
		want := w.m.commit(t, ops)
		w.same(t, "Commit", w.s.Commit(ops), want)
	case k < 27 && w.s != nil:
		want := w.m.compact(t)
		w.same(t, "Compact", w.s.Compact(), want)
	case k < 28:
		w.open(t)
	case k < 29:
		// Of a store over whose disk this is called nothing is promised any more.
		w.s, w.m = nil, nil
		w.format(t, ops)
	case k < 34:
		arm := rnd.IntN(12) - 1
		w.both(func(d *disk.Disk) { d.Arm(arm) })
	case k < 35:
		w.both(func(d *disk.Disk) { d.Flush() })
	case k < 36:
		f := anyFate(rnd)
		w.both(func(d *disk.Disk) { d.Crash(f) })
	}
}

// anyStart is a new disk, or one of a version at which the stamps get another byte, or of the last but one.
func anyStart(t *testing.T, rnd *rand.Rand) string {
	n := []int{64, 64, 65, 66, 80}[rnd.IntN(5)]
	m := mediumOf(t, n)
	if rnd.IntN(3) > 0 {
		return m.image()
	}
	version := []int{254, 255, 65535, 1<<24 - 1, 1<<40 - 2, 1<<40 - 1}[rnd.IntN(6)]
	return m.rows(version-1, rowsOf("old", "er")).rows(version, rowsOf("a", "1")).image()
}

// TestAnyCalls asks for P13.1, P13.4 and P13.5, and for what each call answers at a crash: any calls beside a second way, with each byte on the disk.
func TestAnyCalls(t *testing.T) {
	rnd := rand.New(rand.NewPCG(1, 2))
	found := map[string]int{}
	for range 400 {
		image := anyStart(t, rnd)
		w := &twins{asked: from(t, image), told: from(t, image), found: found}
		w.format(t, anyOps(rnd, 80))
		for range 80 {
			w.anyCall(t, rnd)
			w.check(t)
		}
	}
	for call, least := range map[string]int{
		"Format": 100, "Format: remit: exists": 200, "Format: remit: full": 10, "Format: remit: down": 50,
		"Open": 500, "Open: remit: blank": 100, "Open: remit: down": 100, "Open: remit: worn": 10,
		"Commit": 2000, "Commit: remit: large": 100, "Commit: remit: full": 50, "Commit: remit: down": 1000, "Commit: remit: worn": 10,
		"Compact": 100, "Compact: remit: down": 100, "Compact: remit: worn": 5,
	} {
		if found[call] < least {
			t.Errorf("%s: only %d times", call, found[call])
		}
	}
	if len(found) != 16 {
		t.Errorf("answers: %v", slices.Sorted(maps.Keys(found)))
	}
}

// TestOpenedAgain asks for P13.1: opened again, the rows are the same, and the version is a greater one.
func TestOpenedAgain(t *testing.T) {
	rnd := rand.New(rand.NewPCG(3, 4))
	for range 150 {
		n := 64 + rnd.IntN(5)
		d := formatted(t, n)
		rows, version := noRows(), 1
		for range 10 {
			s := opened(t, d)
			if !slices.Equal(s.Rows(), listOf(rows)) || s.Version() <= version {
				t.Fatalf("opened again: version %d behind %d, or other rows", s.Version(), version)
			}
			for range rnd.IntN(30) {
				ops := anyOps(rnd, n)
				after := s.After(ops)
				err := s.Commit(ops)
				if err == nil {
					rows = applied(rows, ops...)
				}
				if err == nil && s.Size() != after || s.Size() != s.After(nil) || s.Size() > s.Room() || (err == api.ErrFull) && after <= s.Room() {
					t.Fatalf("Commit: %v; Size %d, After %d, Room %d", err, s.Size(), after, s.Room())
				}
			}
			version = s.Version()
		}
	}
}

// anyImage spoils a whole image here and there: parts that are swapped, turned, left out, or whole with other bytes.
func anyImage(t *testing.T, rnd *rand.Rand) string {
	n := 64 + rnd.IntN(4)
	version := []int{2, 3, 255, 256, 1<<40 - 1, 1 << 40}[rnd.IntN(6)]
	rows := applied(noRows(), anyOps(rnd, n)...)
	m := mediumOf(t, n).rows(version-1, rowsOf("old", "er")).log(version-1, 0, recordOf(put("x", "y")))
	bytes := snapshotOf(rows)
	if rnd.IntN(3) == 0 {
		bytes = spoilt(rnd, bytes)
	}
	bytes = bytes[:min(len(bytes), roomOf(n))]
	m.bytes(version, bytes)
	if rnd.IntN(6) == 0 {
		m.slot(version, spoilt(rnd, varint(n)+varint(len(bytes))))
	}
	for i := 0; rnd.IntN(4) > 0; {
		record := recordOf(anyOps(rnd, n)...)
		if rnd.IntN(6) == 0 {
			record = spoilt(rnd, record)
		}
		all := payloads(record)
		if i+len(all) > logN(n) {
			break
		}
		m.log(version, i, record)
		i += len(all)
	}
	for rnd.IntN(4) == 0 {
		places := []int{0, 1, areaAt(n, version), areaAt(n, version) + 1, logAt(n), logAt(n) + 1, rnd.IntN(n)}
		i, k := places[rnd.IntN(7)], places[rnd.IntN(7)]
		switch rnd.IntN(4) {
		case 0:
			m.turned(i)
		case 1:
			m.zero(i)
		case 2:
			m.sectors[i], m.sectors[k] = m.sectors[k], m.sectors[i]
		case 3:
			payload, _ := sector.Open(uint64(version), m.sectors[i])
			payload = spoilt(rnd, payload)
			m.raw(i, sealed(t, uint64(version), payload[:min(len(payload), 234)]))
		}
	}
	return m.image()
}

// spoilt is a text with a byte more, a byte less, or another one.
func spoilt(rnd *rand.Rand, s string) string {
	if s == "" {
		return s
	}
	i := rnd.IntN(len(s))
	if rnd.IntN(2) == 0 {
		i = rnd.IntN(min(len(s), 4))
	}
	switch rnd.IntN(3) {
	case 0:
		return s[:i] + s[i+1:]
	case 1:
		return s[:i] + string([]byte{byte(rnd.IntN(4))}) + s[i:]
	}
	return s[:i] + string([]byte{s[i] ^ 1<<rnd.IntN(8)}) + s[i+1:]
}

// TestAnyBytes asks for P13.7: Open and Format over disks that are nearly whole, and over any bytes, beside a second way.
func TestAnyBytes(t *testing.T) {
	rnd := rand.New(rand.NewPCG(5, 6))
	found := map[string]int{}
	for k := range 6000 {
		image := ""
		if k%10 > 0 {
			image = anyImage(t, rnd)
		} else {
			raw := make([]byte, 256*(60+rnd.IntN(8)))
			for i := range raw {
				raw[i] = byte(rnd.Uint32() >> rnd.IntN(9))
			}
			image = string(raw)
		}
		w := &twins{asked: from(t, image), told: from(t, image), found: found}
		ops := anyOps(rnd, 64)
		w.format(t, ops)
		w.check(t)
		w.open(t)
		w.check(t)
	}
	for _, call := range []string{"Format", "Format: remit: exists", "Format: remit: small", "Open", "Open: remit: corrupt", "Open: remit: worn", "Open: remit: small"} {
		if found[call] < 100 {
			t.Errorf("%s: only %d times", call, found[call])
		}
	}
}
