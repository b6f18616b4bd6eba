package store_test

import (
	"encoding/binary"
	"maps"
	"math"
	"remit/api"
	"remit/disk"
	"remit/sector"
	"remit/store"
	"slices"
	"strings"
	"testing"
)

// small is the least disk: its areas take 4680 bytes each, its log 22 sectors.
const (
	small        = 64
	smallRoom    = 4680
	smallLargest = 5122
)

func put(key, value string) api.Op { return api.Op{Key: key, Value: value} }

func gone(key string) api.Op { return api.Op{Delete: true, Key: key} }

// rowsOf are rows, by their keys and values.
func rowsOf(pairs ...string) map[string]string {
	out := map[string]string{}
	for i := 0; i < len(pairs); i += 2 {
		out[pairs[i]] = pairs[i+1]
	}
	return out
}

// noRows are no rows, to which some may be added.
func noRows() map[string]string { return map[string]string{} }

// listOf are rows by rising key.
func listOf(rows map[string]string) []api.Row {
	var out []api.Row
	for _, key := range slices.Sorted(maps.Keys(rows)) {
		out = append(out, api.Row{Key: key, Value: rows[key]})
	}
	return out
}

// applied are the rows behind some ops.
func applied(rows map[string]string, ops ...api.Op) map[string]string {
	out := maps.Clone(rows)
	for _, op := range ops {
		delete(out, op.Key)
		if !op.Delete {
			out[op.Key] = op.Value
		}
	}
	return out
}

// filler is the value that makes the snapshot of one row with a key of one byte so many bytes long.
func filler(bytes int) string {
	for most := bytes; ; most-- {
		if len(snapshotOf(rowsOf("k", strings.Repeat("v", most)))) == bytes {
			return strings.Repeat("v", most)
		}
	}
}

func varint(n int) string { return string(binary.AppendUvarint(nil, uint64(n))) }

func text(s string) string { return varint(len(s)) + s }

// snapshotOf is the bytes of a snapshot.
func snapshotOf(rows map[string]string) string {
	var out strings.Builder
	out.WriteString(varint(len(rows)))
	for _, row := range listOf(rows) {
		out.WriteString(text(row.Key) + text(row.Value))
	}
	return out.String()
}

// recordOf is the bytes of a batch: the last op of each key, by rising key.
func recordOf(ops ...api.Op) string {
	last := map[string]api.Op{}
	for _, op := range ops {
		last[op.Key] = op
	}
	out := varint(len(last))
	for _, key := range slices.Sorted(maps.Keys(last)) {
		if last[key].Delete {
			out += "\x01" + text(key)
		} else {
			out += "\x00" + text(key) + text(last[key].Value)
		}
	}
	return out
}

// payloads are those of a record's sectors.
func payloads(record string) []string {
	rest := "\x01" + string(binary.LittleEndian.AppendUint32(nil, uint32(len(record)))) + record
	first := min(234, len(rest))
	out := []string{rest[:first]}
	for rest = rest[first:]; rest != ""; {
		size := min(233, len(rest))
		out = append(out, "\x00"+rest[:size])
		rest = rest[size:]
	}
	return out
}

// pieces are the payloads of a snapshot's sectors.
func pieces(snapshot string) []string {
	var out []string
	for snapshot != "" {
		size := min(234, len(snapshot))
		out = append(out, snapshot[:size])
		snapshot = snapshot[size:]
	}
	return out
}

func sealed(t *testing.T, stamp uint64, payload string) string {
	t.Helper()
	raw, err := sector.Seal(stamp, payload)
	if err != nil {
		t.Fatalf("Seal(%d, %.10q of %d): %v", stamp, payload, len(payload), err)
	}
	return raw
}

// areaAt, logAt and logN say where things lie on a disk of n sectors.
func areaAt(n, version int) int { return 2 + version%2*((n-2)/3) }

func logAt(n int) int { return 2 + (n-2)/3*2 }

func logN(n int) int { return n - logAt(n) }

func roomOf(n int) int { return (n - 2) / 3 * 234 }

func largestOf(n int) int { return 229 + 233*(logN(n)-1) }

// medium is a disk's sectors, laid by hand.
type medium struct {
	t       *testing.T
	sectors []string
}

func mediumOf(t *testing.T, n int) *medium {
	return &medium{t, slices.Repeat([]string{strings.Repeat("\x00", 256)}, n)}
}

func (m *medium) slot(version int, value string) *medium {
	m.sectors[version%2] = sealed(m.t, uint64(version), value)
	return m
}

// area lays bytes into the area of a version.
func (m *medium) area(version int, bytes string) *medium {
	for i, piece := range pieces(bytes) {
		m.sectors[areaAt(len(m.sectors), version)+i] = sealed(m.t, uint64(version), piece)
	}
	return m
}

// bytes lays bytes where a version's snapshot lies, with their slot.
func (m *medium) bytes(version int, bytes string) *medium {
	return m.area(version, bytes).slot(version, varint(len(m.sectors))+varint(len(bytes)))
}

// rows lays the snapshot of rows, with its slot.
func (m *medium) rows(version int, rows map[string]string) *medium {
	return m.bytes(version, snapshotOf(rows))
}

// log lays records from the log's sector number i on.
func (m *medium) log(version, i int, records ...string) *medium {
	n := len(m.sectors)
	for _, record := range records {
		for _, payload := range payloads(record) {
			m.sectors[logAt(n)+i] = sealed(m.t, uint64(version)<<20+uint64(i)+1, payload)
			i++
		}
	}
	return m
}

func (m *medium) image() string { return strings.Join(m.sectors, "") }

func (m *medium) disk() *disk.Disk { return from(m.t, m.image()) }

func from(t *testing.T, image string) *disk.Disk {
	t.Helper()
	d, err := disk.From(image)
	if err != nil {
		t.Fatal(err)
	}
	return d
}

func made(t *testing.T, n int) *disk.Disk {
	t.Helper()
	d, err := disk.New(n)
	if err != nil {
		t.Fatal(err)
	}
	return d
}

func formatted(t *testing.T, n int, ops ...api.Op) *disk.Disk {
	t.Helper()
	d := made(t, n)
	if err := store.Format(d, ops); err != nil {
		t.Fatalf("Format: %v", err)
	}
	return d
}

func opened(t *testing.T, d *disk.Disk) *store.Store {
	t.Helper()
	s, err := store.Open(d)
	if err != nil || s == nil {
		t.Fatalf("Open: %v, %v", s, err)
	}
	return s
}

func commit(t *testing.T, s *store.Store, ops ...api.Op) {
	t.Helper()
	if err := s.Commit(ops); err != nil {
		t.Fatalf("Commit of %d ops: %v", len(ops), err)
	}
}

// told are the rows that an iterator goes over, which must rise.
func told(t *testing.T, rows func(yield func(string, string) bool)) []api.Row {
	t.Helper()
	var out []api.Row
	for key, value := range rows {
		if len(out) > 0 && key <= out[len(out)-1].Key {
			t.Fatalf("%.20q is told behind %.20q", key, out[len(out)-1].Key)
		}
		out = append(out, api.Row{Key: key, Value: value})
	}
	return out
}

// checkStore asks all that a store tells, on a disk of n sectors.
func checkStore(t *testing.T, s *store.Store, n, version int, rows map[string]string) {
	t.Helper()
	list := listOf(rows)
	if got := s.Rows(); !slices.Equal(got, list) {
		t.Fatalf("Rows() = %.200q, want %.200q", got, list)
	}
	if got := told(t, s.Range("", "\xff\xff")); !slices.Equal(got, list) {
		t.Fatalf("Range over all: %.200q, want %.200q", got, list)
	}
	for key, want := range rows {
		if value, ok := s.Get(key); !ok || value != want {
			t.Fatalf("Get(%.20q) = %.20q, %v, want %.20q", key, value, ok, want)
		}
		if value, ok := s.Get(key + "\x00"); ok || value != "" {
			t.Fatalf("Get(%.20q with a zero) = %.20q, %v", key, value, ok)
		}
	}
	size := len(snapshotOf(rows))
	if s.Size() != size || s.After(nil) != size || s.After([]api.Op{}) != size {
		t.Fatalf("Size() = %d, After() = %d, want %d", s.Size(), s.After(nil), size)
	}
	if s.Version() != version || s.Room() != roomOf(n) || s.Largest() != largestOf(n) {
		t.Fatalf("Version %d, Room %d, Largest %d, want %d, %d, %d", s.Version(), s.Room(), s.Largest(), version, roomOf(n), largestOf(n))
	}
}

// still is what a refused call must leave.
type still struct {
	image                           string
	pending, writes, flushes, lives int
	off                             bool
}

func stillOf(d *disk.Disk) still {
	writes, flushes := d.Counts()
	return still{d.Image(), d.Pending(), writes, flushes, d.Life(), d.Off()}
}

// checkOpen asks for the error of Open over a disk; the disk must stay as it is.
func checkOpen(t *testing.T, d *disk.Disk, want error) {
	t.Helper()
	before := stillOf(d)
	if s, err := store.Open(d); s != nil || err != want {
		t.Errorf("Open: %v, %v, want %v", s, err, want)
	}
	if stillOf(d) != before {
		t.Errorf("a refused Open has changed the disk")
	}
}

// checkFormat asks for the error of Format; the disk must stay as it is.
func checkFormat(t *testing.T, d *disk.Disk, want error, ops ...api.Op) {
	t.Helper()
	before := stillOf(d)
	if err := store.Format(d, ops); err != want {
		t.Errorf("Format of %d ops: %v, want %v", len(ops), err, want)
	}
	if stillOf(d) != before {
		t.Errorf("a refused Format has changed the disk")
	}
}

func TestLayoutExamples(t *testing.T) {
	type layout struct {
		first, second, each, log, many int
		err                            error
	}
	for n, want := range map[int]layout{
		64: {2, 22, 20, 42, 22, nil}, 65: {2, 23, 21, 44, 21, nil}, 66: {2, 23, 21, 44, 22, nil}, 67: {2, 23, 21, 44, 23, nil},
		400: {2, 134, 132, 266, 134, nil}, 65536: {2, 21846, 21844, 43690, 21846, nil},
		63: {err: api.ErrSmall}, 5: {err: api.ErrSmall}, 2: {err: api.ErrSmall}, 1: {err: api.ErrSmall}, 0: {err: api.ErrSmall}, -1: {err: api.ErrSmall}, math.MinInt: {err: api.ErrSmall},
		65537: {err: api.ErrRange}, 1 << 20: {err: api.ErrRange}, math.MaxInt: {err: api.ErrRange},
	} {
		var got layout
		got.first, got.second, got.each, got.log, got.many, got.err = store.Layout(n)
		if got != want {
			t.Errorf("Layout(%d) = %v, want %v", n, got, want)
		}
	}
}

// TestLayoutOfAll asks that on each disk the parts lie side by side, and fill it.
func TestLayoutOfAll(t *testing.T) {
	for n := 64; n <= 65536; n++ {
		first, second, each, log, many, err := store.Layout(n)
		if err != nil || first != 2 || second != first+each || log != second+each || log+many != n || many < each || many > each+2 {
			t.Fatalf("Layout(%d) = %d, %d, %d, %d, %d, %v", n, first, second, each, log, many, err)
		}
	}
}

// TestChapterExamples goes through the examples of the chapter.
func TestChapterExamples(t *testing.T) {
	d := formatted(t, small, put("a", "1"), put("b", "2"))
	s := opened(t, d)
	checkStore(t, s, small, 2, rowsOf("a", "1", "b", "2"))
	if s.Size() != 9 {
		t.Errorf("Size() = %d, want 9", s.Size())
	}
	checkFormat(t, d, api.ErrExists, put("a", "1"))
	ops := []api.Op{gone("a"), put("c", "")}
	if s.After(ops) != 8 {
		t.Errorf("After() = %d, want 8", s.After(ops))
	}
	commit(t, s, ops...)
	checkStore(t, s, small, 2, rowsOf("b", "2", "c", ""))
	if s.Size() != 8 {
		t.Errorf("Size() = %d, want 8", s.Size())
	}
	checkStore(t, opened(t, d), small, 3, rowsOf("b", "2", "c", ""))
	d.Arm(3)
	if s, err := store.Open(d); s != nil || err != api.ErrDown {
		t.Errorf("Open, the power going at its second flush: %v, %v", s, err)
	}
	d.Crash(api.Fate{Torn: -1})
	checkStore(t, opened(t, d), small, 4, rowsOf("b", "2", "c", ""))
}

// TestFormatLies asks for each byte that a Format leaves: the greatest rows, none, and rows that are said in any order, twice and taken back.
func TestFormatLies(t *testing.T) {
	for _, n := range []int{64, 65, 66, 67, 100, 400} {
		for _, ops := range [][]api.Op{
			nil,
			{put("", "")},
			{put("b", "2"), put("a", "1"), put("b", "3")},
			{put("k", "v"), gone("k"), gone("z"), put("z", "\xff\x00")},
			{put("k", strings.Repeat("v", 230)), {Delete: true, Key: "l", Value: "no use"}},
			{put("k", strings.Repeat("v", 229)), put("l", strings.Repeat("w", 300))},
			{put("k", filler(roomOf(n)))},
		} {
			rows := applied(noRows(), ops...)
			d := made(t, n)
			if err := store.Format(d, ops); err != nil {
				t.Fatalf("Format of %d sectors: %v", n, err)
			}
			if want := mediumOf(t, n).rows(1, rows); d.Image() != want.image() || d.Pending() != 0 {
				t.Errorf("Format of %d sectors and %d ops leaves another image", n, len(ops))
			}
			if writes, flushes := d.Counts(); writes != len(pieces(snapshotOf(rows)))+1 || flushes != 2 {
				t.Errorf("Format of %d bytes: %d writes and %d flushes", len(snapshotOf(rows)), writes, flushes)
			}
			checkStore(t, opened(t, d), n, 2, rows)
		}
	}
}

// TestFormatOverAnything asks that Format looks at the slots alone, and writes nothing but its snapshot and slot.
func TestFormatOverAnything(t *testing.T) {
	m := mediumOf(t, small)
	for i := range m.sectors {
		m.sectors[i] = sealed(t, uint64(i)*1000+7, "any")
	}
	// Neither of these counts in its slot: the first is the other one's, the second is above the greatest version.
	m.sectors[0], m.sectors[1] = sealed(t, 7, "odd"), sealed(t, 1<<40+1, "far")
	m.log(1, 0, recordOf(put("x", "y")))
	d := m.disk()
	checkOpen(t, d, api.ErrBlank)
	if err := store.Format(d, []api.Op{put("a", "1")}); err != nil {
		t.Fatal(err)
	}
	if d.Image() != m.rows(1, rowsOf("a", "1")).image() {
		t.Error("Format has written elsewhere")
	}
}

// TestFormatRefused asks for each refusal, and which one comes first.
func TestFormatRefused(t *testing.T) {
	large := put("k", strings.Repeat("v", smallRoom-4))
	for _, n := range []int{1, 2, 3, 63} {
		checkFormat(t, made(t, n), api.ErrSmall, large)
		checkOpen(t, made(t, n), api.ErrSmall)
	}
	tiny := made(t, 63)
	tiny.Arm(0)
	tiny.Flush()
	checkFormat(t, tiny, api.ErrSmall)
	checkOpen(t, tiny, api.ErrSmall)

	d := made(t, small)
	checkFormat(t, d, api.ErrFull, large)
	checkFormat(t, d, api.ErrFull, put("a", "1"), put("k", strings.Repeat("v", smallRoom-9)), put("b", ""))
	d.Arm(0)
	checkFormat(t, d, api.ErrFull, large)
	d.Flush()
	checkFormat(t, d, api.ErrDown, large)
	checkOpen(t, d, api.ErrDown)

	// In whichever slot a value counts, whatever it says, and above which version it is.
	for _, version := range []int{1, 2, 255, 256, 1 << 40} {
		d := mediumOf(t, small).slot(version, "any").disk()
		checkFormat(t, d, api.ErrExists, large)
		checkFormat(t, d, api.ErrExists)
		d.Arm(0)
		d.Flush()
		checkFormat(t, d, api.ErrDown, large)
	}
}

// TestFormatDown asks for ErrDown at each write and flush of a Format, and for what is under way then.
func TestFormatDown(t *testing.T) {
	ops := []api.Op{put("k", strings.Repeat("v", 300)), put("a", "1")}
	for arm, pending := range []int{1, 2, 2, 1, 1} {
		d := made(t, small)
		d.Arm(arm)
		if err := store.Format(d, ops); err != api.ErrDown || !d.Off() || d.Pending() != pending {
			t.Errorf("armed %d: %v, off: %v, %d under way, want %d", arm, err, d.Off(), d.Pending(), pending)
		}
	}
	d := made(t, small)
	d.Arm(5)
	if err := store.Format(d, ops); err != nil {
		t.Errorf("armed behind all: %v", err)
	}
}

// TestOpenLies asks for each byte that an Open leaves, beside what lay there.
func TestOpenLies(t *testing.T) {
	rows := rowsOf("a", "1", "b", "2", "k", strings.Repeat("v", 500))
	old := mediumOf(t, small).rows(6, rowsOf("old", "er")).rows(7, rows)
	old.log(6, 0, recordOf(put("o", "ld"))).log(7, 0, recordOf(gone("a"), put("c", "3")), recordOf(put("b", "")))
	d := old.disk()
	s := opened(t, d)
	now := rowsOf("b", "", "c", "3", "k", strings.Repeat("v", 500))
	checkStore(t, s, small, 8, now)
	if d.Image() != old.rows(8, now).image() || d.Pending() != 0 {
		t.Error("Open leaves another image")
	}
	if writes, flushes := d.Counts(); writes != 4 || flushes != 2 {
		t.Errorf("Open: %d writes and %d flushes", writes, flushes)
	}
}

// TestOpenTakes asks that what only looks wrong is opened.
func TestOpenTakes(t *testing.T) {
	rows, full := rowsOf("a", "1"), rowsOf("k", strings.Repeat("v", smallRoom-5))
	torn := sealed(t, 2<<20+1, payloads(recordOf(put("b", "2")))[0])
	for name, x := range map[string]struct {
		m       *medium
		version int
		rows    map[string]string
	}{
		"no row":                           {mediumOf(t, small).rows(1, noRows()), 2, noRows()},
		"the empty key":                    {mediumOf(t, small).rows(1, rowsOf("", "")), 2, rowsOf("", "")},
		"rows that fill the room":          {mediumOf(t, small).rows(1, full), 2, full},
		"an older slot of nothing":         {mediumOf(t, small).rows(2, rows).slot(1, "nonsense"), 3, rows},
		"a newer slot that is turned":      {mediumOf(t, small).rows(2, rows).turned(1), 3, rows},
		"another version's snapshot":       {mediumOf(t, small).rows(4, rows).area(5, "nonsense"), 5, rows},
		"another version's log":            {mediumOf(t, small).rows(4, rows).log(2, 0, "nonsense"), 5, rows},
		"a later version's log":            {mediumOf(t, small).rows(4, rows).log(5, 0, "nonsense"), 5, rows},
		"a record behind a gap":            {mediumOf(t, small).rows(4, rows).log(4, 1, "nonsense"), 5, rows},
		"a record that isn't whole":        {mediumOf(t, small).rows(4, rows).log(4, 0, recordOf(put("b", strings.Repeat("v", 300)))).zero(logAt(small) + 1), 5, rows},
		"a record at another place":        {mediumOf(t, small).rows(2, rows).raw(logAt(small)+1, torn), 3, rows},
		"a batch of no op":                 {mediumOf(t, small).rows(4, rows).log(4, 0, "\x00", recordOf(gone("a")), "\x00"), 5, noRows()},
		"a batch that changes nothing":     {mediumOf(t, small).rows(4, rows).log(4, 0, recordOf(gone("z"), put("a", "1"))), 5, rows},
		"too many rows between":            {mediumOf(t, small).rows(4, full).log(4, 0, recordOf(put("l", "w")), recordOf(gone("k"))), 5, rowsOf("l", "w")},
		"records that bring just the room": {mediumOf(t, small).rows(4, noRows()).log(4, 0, recordOf(put("k", strings.Repeat("v", smallRoom-5)))), 5, full},
		"the version but one":              {mediumOf(t, small).rows(1<<40-1, rows), 1 << 40, rows},
		"a snapshot's further sectors":     {mediumOf(t, small).area(1, snapshotOf(full)).rows(1, rows), 2, rows},
		"a disk of another remainder":      {mediumOf(t, 66).rows(1, rows).log(1, 0, recordOf(put("b", "2"))), 2, rowsOf("a", "1", "b", "2")},
	} {
		t.Run(name, func(t *testing.T) {
			d := x.m.disk()
			checkStore(t, opened(t, d), len(x.m.sectors), x.version, x.rows)
			if d.Image() != x.m.rows(x.version, x.rows).image() {
				t.Error("Open leaves another image")
			}
		})
	}
}

// turned turns a byte of a sector's middle.
func (m *medium) turned(i int) *medium {
	raw := []byte(m.sectors[i])
	raw[100] ^= 1
	m.sectors[i] = string(raw)
	return m
}

func (m *medium) zero(i int) *medium { return m.raw(i, strings.Repeat("\x00", 256)) }

func (m *medium) raw(i int, raw string) *medium {
	m.sectors[i] = raw
	return m
}

// TestOpenCorrupt asks for each way in which bytes are nobody's; an older version that is whole makes no difference.
func TestOpenCorrupt(t *testing.T) {
	rows := rowsOf("a", "1", "b", "2")
	whole := snapshotOf(rows)
	long := snapshotOf(rowsOf("k", strings.Repeat("v", 500)))
	size, bytes := varint(small), varint(len(whole))
	fills := strings.Repeat("v", smallRoom-4)
	for name, spoil := range map[string]func(m *medium, v int){
		"an empty slot":               func(m *medium, v int) { m.rows(v, rows).slot(v, "") },
		"a slot without bytes":        func(m *medium, v int) { m.rows(v, rows).slot(v, size) },
		"a slot with more":            func(m *medium, v int) { m.rows(v, rows).slot(v, size+bytes+"\x00") },
		"a slot that is cut":          func(m *medium, v int) { m.rows(v, rows).slot(v, size+"\x89") },
		"a size that isn't the least": func(m *medium, v int) { m.rows(v, rows).slot(v, "\xc0\x00"+bytes) },
		"bytes that aren't the least": func(m *medium, v int) { m.rows(v, rows).slot(v, size+"\x89\x00") },
		"a smaller size":              func(m *medium, v int) { m.rows(v, rows).slot(v, varint(63)+bytes) },
		"a greater size":              func(m *medium, v int) { m.rows(v, rows).slot(v, varint(65)+bytes) },
		"the size above 64 bits":      func(m *medium, v int) { m.rows(v, rows).slot(v, strings.Repeat("\xff", 9)+"\x02"+bytes) },
		"the size plus 2^32":          func(m *medium, v int) { m.rows(v, rows).slot(v, varint(1<<32+small)+bytes) },
		"no bytes":                    func(m *medium, v int) { m.rows(v, rows).slot(v, size+varint(0)) },
		"a byte less":                 func(m *medium, v int) { m.rows(v, rows).slot(v, size+varint(len(whole)-1)) },
		"a byte more":                 func(m *medium, v int) { m.rows(v, rows).slot(v, size+varint(len(whole)+1)) },
		"a sector more":               func(m *medium, v int) { m.rows(v, rows).slot(v, size+varint(len(whole)+234)) },
		"more than the room":          func(m *medium, v int) { m.rows(v, rows).slot(v, size+varint(smallRoom+1)) },
		"the most bytes":              func(m *medium, v int) { m.rows(v, rows).slot(v, size+strings.Repeat("\xff", 9)+"\x01") },
		"a snapshot that isn't there": func(m *medium, v int) { m.slot(v, size+bytes) },
		"a snapshot that is turned":   func(m *medium, v int) { m.rows(v, rows).turned(areaAt(small, v)) },
		"a second sector that is older": func(m *medium, v int) {
			m.bytes(v, long).raw(areaAt(small, v)+1, sealed(m.t, uint64(v-2), long[234:468]))
		},
		"a last sector that is missing": func(m *medium, v int) { m.bytes(v, long).zero(areaAt(small, v) + 2) },
		"a snapshot in the other area":  func(m *medium, v int) { m.slot(v, size+bytes).raw(areaAt(small, v+1), sealed(m.t, uint64(v), whole)) },
		"rows that fall":                func(m *medium, v int) { m.bytes(v, "\x02\x01b\x012\x01a\x011") },
		"a key twice":                   func(m *medium, v int) { m.bytes(v, "\x02\x01a\x012\x01a\x011") },
		"a key twice, alike":            func(m *medium, v int) { m.bytes(v, "\x02\x01a\x011\x01a\x011") },
		"the empty key twice":           func(m *medium, v int) { m.bytes(v, "\x02\x00\x00\x00\x00") },
		"a later key that is lower":     func(m *medium, v int) { m.bytes(v, "\x03\x01b\x00\x01c\x00\x01b\x00") },
		"a later key that falls":        func(m *medium, v int) { m.bytes(v, "\x03\x01b\x00\x01d\x00\x01c\x00") },
		"too few rows":                  func(m *medium, v int) { m.bytes(v, "\x03"+whole[1:]) },
		"too many rows":                 func(m *medium, v int) { m.bytes(v, "\x01"+whole[1:]) },
		"bytes behind the rows":         func(m *medium, v int) { m.bytes(v, whole+"\x00") },
		"rows that are cut":             func(m *medium, v int) { m.bytes(v, whole[:len(whole)-1]) },
		"a value that is missing":       func(m *medium, v int) { m.bytes(v, "\x01\x01a") },
		"a key beyond the end":          func(m *medium, v int) { m.bytes(v, "\x01\xff\xff\xff\xff\xff\xff\xff\xff\xff\x01a") },
		"a value beyond the end":        func(m *medium, v int) { m.bytes(v, "\x01\x01a\x021") },
		"a number that isn't the least": func(m *medium, v int) { m.bytes(v, "\x82\x00"+whole[1:]) },
		"a length that isn't the least": func(m *medium, v int) { m.bytes(v, "\x02\x81\x00"+whole[2:]) },
		"the most rows":                 func(m *medium, v int) { m.bytes(v, strings.Repeat("\xff", 9)+"\x01"+whole[1:]) },
		"no rows and a byte":            func(m *medium, v int) { m.bytes(v, "\x00\x00") },
		"an empty record":               func(m *medium, v int) { m.rows(v, rows).log(v, 0, "") },
		"a record that is no batch":     func(m *medium, v int) { m.rows(v, rows).log(v, 0, "nonsense") },
		"a later record that is none":   func(m *medium, v int) { m.rows(v, rows).log(v, 0, recordOf(put("c", "3")), "\x01\x02\x01c") },
		"a record with more":            func(m *medium, v int) { m.rows(v, rows).log(v, 0, recordOf(put("c", "3"))+"\x00") },
		"a record of ops that fall":     func(m *medium, v int) { m.rows(v, rows).log(v, 0, "\x02\x01\x01b\x01\x01a") },
		"a record of an op twice":       func(m *medium, v int) { m.rows(v, rows).log(v, 0, "\x02\x01\x01b\x01\x01b") },
		"records behind the room":       func(m *medium, v int) { m.rows(v, noRows()).log(v, 0, recordOf(put("k", fills))) },
		"two records behind the room":   func(m *medium, v int) { m.rows(v, rowsOf("k", fills[1:])).log(v, 0, recordOf(put("l", "")), "\x00") },
	} {
		for _, version := range []int{3, 4, 300, 1<<40 - 1, 1 << 40} {
			m := mediumOf(t, small).rows(version-1, rows).log(version-1, 0, recordOf(put("c", "3")))
			spoil(m, version)
			d := m.disk()
			t.Run(name, func(t *testing.T) {
				checkOpen(t, d, api.ErrCorrupt)
				checkFormat(t, d, api.ErrExists, put("k", fills))
				d.Arm(0)
				checkOpen(t, d, api.ErrCorrupt)
				d.Flush()
				checkOpen(t, d, api.ErrDown)
			})
		}
	}
}

// TestOpenWorn asks for the last version: what lies there is whole, but there is none behind it.
func TestOpenWorn(t *testing.T) {
	m := mediumOf(t, small).rows(1<<40, rowsOf("a", "1")).log(1<<40, 0, recordOf(put("b", "2")))
	d := m.disk()
	checkOpen(t, d, api.ErrWorn)
	d.Arm(0)
	checkOpen(t, d, api.ErrWorn)
	checkOpen(t, m.log(1<<40, 1, "nonsense").disk(), api.ErrCorrupt)
}

// TestOpenDown asks for ErrDown at each write and flush of an Open, and for what is under way then.
func TestOpenDown(t *testing.T) {
	m := mediumOf(t, small).rows(3, rowsOf("k", strings.Repeat("v", 300)))
	for arm, pending := range []int{1, 2, 2, 1, 1} {
		d := m.disk()
		d.Arm(arm)
		if s, err := store.Open(d); s != nil || err != api.ErrDown || !d.Off() || d.Pending() != pending {
			t.Errorf("armed %d: %v, %v, off: %v, %d under way, want %d", arm, s, err, d.Off(), d.Pending(), pending)
		}
		checkOpen(t, d, api.ErrDown)
	}
	d := m.disk()
	d.Arm(5)
	opened(t, d)
}

// TestOpenReadsWhatIsUnderWay asks that Open takes the newest writes, as a read tells them.
func TestOpenReadsWhatIsUnderWay(t *testing.T) {
	d := made(t, small)
	for i, raw := range mediumOf(t, small).rows(1, rowsOf("a", "1")).log(1, 0, recordOf(put("b", "2"))).sectors {
		if err := d.Write(i, raw); err != nil {
			t.Fatal(err)
		}
	}
	checkFormat(t, d, api.ErrExists)
	checkStore(t, opened(t, d), small, 2, rowsOf("a", "1", "b", "2"))
}
