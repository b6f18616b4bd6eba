package store_test

import (
	"math/rand/v2"
	"remit/api"
	"remit/disk"
	"remit/store"
	"slices"
	"strconv"
	"strings"
	"testing"
)

// allFates are all that a crash can make of some writes, but for tears far from a sector's ends.
func allFates(writes int, do func(f api.Fate)) {
	for mask := range 1 << writes {
		f := api.Fate{Torn: -1}
		for i := range writes {
			f.Kept = append(f.Kept, mask>>i&1 != 0)
		}
		do(f)
		for f.Torn = range writes {
			for f.Bytes = 0; f.Bytes <= 256 && !f.Kept[f.Torn]; f.Bytes++ {
				if f.Bytes < 12 || f.Bytes > 246 || f.Bytes == 100 {
					do(f)
				}
			}
		}
	}
}

// life is a store from its disk's beginning on: batches that were committed, and what is committed last, under which the power may go.
type life struct {
	n       int
	batches [][]api.Op
	last    []api.Op
}

// rows are those behind the first batches, and those behind the last one too.
func (l life) rows() (map[string]string, map[string]string) {
	before := rowsOf("a", "1")
	for _, ops := range l.batches {
		before = applied(before, ops...)
	}
	return before, applied(before, l.last...)
}

// cut lives up to the write or flush number arm of the last commit, and tells what that answered.
func (l life) cut(t *testing.T, arm int) (*disk.Disk, error) {
	t.Helper()
	d := formatted(t, l.n, put("a", "1"))
	s := opened(t, d)
	for i, ops := range l.batches {
		commit(t, s, ops...)
		if i%10 == 9 {
			s = opened(t, d)
		}
	}
	d.Arm(arm)
	return d, s.Commit(l.last)
}

// repeated are batches of one sector each, which change a row each time.
func repeated(many int) [][]api.Op {
	var out [][]api.Op
	for i := range many {
		out = append(out, []api.Op{put("r", strconv.Itoa(i)), gone("s" + strconv.Itoa(i-1)), put("s"+strconv.Itoa(i), "")})
	}
	return out
}

// lives are such in which the last commit needs one sector, three, three at the log's end, and a snapshot ahead of it; and some over logs that older versions have left.
func lives() []life {
	long, fills := strings.Repeat("v", 500), repeated(8)
	// Of the log's 22 sectors this takes 18.
	big := []api.Op{put("big", strings.Repeat("w", 229+233*16))}
	return []life{
		{64, nil, []api.Op{put("b", "2"), gone("a")}},
		{64, nil, []api.Op{put("b", long), gone("a")}},
		{64, repeated(7), []api.Op{put("b", "2"), gone("a"), gone("r")}},
		{64, [][]api.Op{big, {gone("big")}}, []api.Op{put("b", long)}},
		{64, slices.Concat(fills, [][]api.Op{big, {gone("big")}, big, {gone("big")}}, repeated(1)), []api.Op{put("b", long), gone("a")}},
		{66, repeated(35), []api.Op{put("b", long), gone("a")}},
	}
}

// TestWholeOrNot asks for P13.2: one commit, cut off at each write and at each flush, with each fate.
func TestWholeOrNot(t *testing.T) {
	for k, l := range lives() {
		before, behind := l.rows()
		nothing, all := 0, 0
		for arm := 0; ; arm++ {
			d, err := l.cut(t, arm)
			if err == nil {
				if checkRows(t, d, behind, behind); arm != []int{2, 4, 2, 4, 8, 4}[k] {
					t.Errorf("life %d: the last commit had %d writes and flushes", k, arm)
				}
				break
			}
			if err != api.ErrDown {
				t.Fatalf("life %d: %v", k, err)
			}
			allFates(d.Pending(), func(f api.Fate) {
				d, _ := l.cut(t, arm)
				d.Crash(f)
				if checkRows(t, d, before, behind) {
					all++
				} else {
					nothing++
				}
			})
		}
		if nothing < 20 || all < 2 {
			t.Errorf("life %d: nothing was there %d times, all %d times", k, nothing, all)
		}
	}
}

// checkRows opens a disk, asks whether the rows are those of before or behind, and goes on with them; the answer is whether they are those of behind.
func checkRows(t *testing.T, d *disk.Disk, before, behind map[string]string) bool {
	t.Helper()
	d.Arm(-1)
	s := opened(t, d)
	rows, isBehind := before, slices.Equal(s.Rows(), listOf(behind))
	if isBehind {
		rows = behind
	}
	checkStore(t, s, d.Size(), s.Version(), rows)
	rows = applied(rows, put("more", strings.Repeat("m", 240)))
	commit(t, s, put("more", strings.Repeat("m", 240)))
	checkStore(t, opened(t, d), d.Size(), s.Version()+1, rows)
	return isBehind
}

// TestBehindNil asks for P13.2: what was answered nil is there behind every crash, whatever its fate, for nothing is under way.
func TestBehindNil(t *testing.T) {
	for k, l := range lives() {
		_, behind := l.rows()
		d, err := l.cut(t, -1)
		if err != nil || d.Pending() != 0 {
			t.Fatalf("life %d: %v, %d writes under way", k, err, d.Pending())
		}
		d.Crash(api.Fate{Torn: -1})
		checkRows(t, d, behind, behind)
	}
}

// lain is an image of a disk, with the rows that must be there.
type lain struct {
	image string
	rows  map[string]string
}

// torn are images that a crash left: at versions at which a stamp gets another byte too.
func torn(t *testing.T) []lain {
	t.Helper()
	var out []lain
	for _, l := range lives() {
		before, behind := l.rows()
		for _, arm := range []int{0, 1} {
			d, _ := l.cut(t, arm)
			d.Crash(api.Fate{Torn: 0, Bytes: 250})
			out = append(out, lain{d.Image(), before})
		}
		d, _ := l.cut(t, -1)
		out = append(out, lain{d.Image(), behind})
	}
	for _, version := range []int{3, 254, 255, 256, 65534, 65535, 1<<40 - 20} {
		rows := rowsOf("a", "1")
		m := mediumOf(t, 64).rows(version-1, rowsOf("b", "2")).rows(version, rows)
		m.log(version-1, 0, recordOf(put("c", "3")), recordOf(gone("b"))).log(version, 0, recordOf(put("d", "4")))
		out = append(out, lain{m.image(), applied(rows, put("d", "4"))})
	}
	return out
}

// cutOpen opens a disk, the power going at the write or flush number arm.
func cutOpen(t *testing.T, image string, arm int) *disk.Disk {
	t.Helper()
	d := from(t, image)
	d.Arm(arm)
	if s, err := store.Open(d); s != nil || err != api.ErrDown {
		t.Fatalf("Open armed %d: %v, %v", arm, s, err)
	}
	return d
}

// steps is how many writes and flushes an Open of these rows makes.
func steps(rows map[string]string) int { return len(pieces(snapshotOf(rows))) + 3 }

// TestOpeningChangesNothing asks for P13.3: an Open cut off at each write and flush with each fate, and behind it again, and again.
func TestOpeningChangesNothing(t *testing.T) {
	rnd := rand.New(rand.NewPCG(1, 2))
	for _, x := range torn(t) {
		image, rows := x.image, x.rows
		first := opened(t, from(t, image)).Version()
		seen := map[string]bool{}
		for arm := range steps(rows) {
			allFates(cutOpen(t, image, arm).Pending(), func(f api.Fate) {
				d := cutOpen(t, image, arm)
				d.Crash(f)
				// Of images that are alike one is enough.
				if seen[d.Image()] {
					return
				}
				seen[d.Image()] = true
				again := cutOpen(t, d.Image(), rnd.IntN(steps(rows)))
				again.Crash(anyFate(rnd))
				s, u := opened(t, from(t, d.Image())), opened(t, again)
				checkStore(t, s, d.Size(), s.Version(), rows)
				checkStore(t, u, d.Size(), u.Version(), rows)
				if s.Version() < first || s.Version() > first+1 || u.Version() < s.Version() || u.Version() > s.Version()+1 {
					t.Fatalf("versions %d, then %d and %d", first, s.Version(), u.Version())
				}
			})
		}
		for range 200 {
			d := from(t, image)
			for range 1 + rnd.IntN(6) {
				d.Arm(rnd.IntN(steps(rows)))
				if s, err := store.Open(d); s != nil || err != api.ErrDown {
					t.Fatalf("Open: %v, %v", s, err)
				}
				d.Crash(anyFate(rnd))
			}
			s := opened(t, d)
			checkStore(t, s, d.Size(), s.Version(), rows)
		}
	}
}

// TestOpenThatKeepsNothing asks for the version behind an Open of which a crash keeps nothing.
func TestOpenThatKeepsNothing(t *testing.T) {
	for _, x := range torn(t) {
		image, rows := x.image, x.rows
		first := opened(t, from(t, image)).Version()
		for arm := range steps(rows) {
			d := cutOpen(t, image, arm)
			d.Crash(api.Fate{Torn: -1})
			checkStore(t, opened(t, d), d.Size(), first, rows)
		}
	}
}

// cutFormat formats a disk, the power going at the write or flush number arm.
func cutFormat(t *testing.T, image string, arm int, ops []api.Op) *disk.Disk {
	t.Helper()
	d := from(t, image)
	d.Arm(arm)
	if err := store.Format(d, ops); err != api.ErrDown {
		t.Fatalf("Format armed %d: %v", arm, err)
	}
	return d
}

// checkFormatted asks P13.6 of a disk on which a Format with these rows was cut off; the answer is whether the store is there.
func checkFormatted(t *testing.T, image string, rows map[string]string) bool {
	t.Helper()
	s, err := store.Open(from(t, image))
	if err == nil {
		checkStore(t, s, 64, 2, rows)
		checkFormat(t, from(t, image), api.ErrExists)
		return true
	}
	if err != api.ErrBlank || s != nil {
		t.Fatalf("Open: %v, %v", s, err)
	}
	return false
}

// TestFormatCutOff asks for P13.6: a Format cut off at each write and flush with each fate, then one with other rows cut off too, then a whole one.
func TestFormatCutOff(t *testing.T) {
	rnd := rand.New(rand.NewPCG(3, 4))
	batches := [][]api.Op{{put("a", "1")}, nil, {put("k", strings.Repeat("v", 500)), put("l", "m")}, {put("k", strings.Repeat("w", 600))}}
	blank := strings.Repeat("\x00", 256*64)
	for k, ops := range batches {
		rows, there, absent := applied(noRows(), ops...), 0, 0
		for arm := range steps(rows) {
			allFates(cutFormat(t, blank, arm, ops).Pending(), func(f api.Fate) {
				d := cutFormat(t, blank, arm, ops)
				d.Crash(f)
				if checkFormatted(t, d.Image(), rows) {
					there++
					return
				}
				absent++
				others := batches[rnd.IntN(4)]
				otherRows := applied(noRows(), others...)
				d = cutFormat(t, d.Image(), rnd.IntN(steps(otherRows)), others)
				d.Crash(anyFate(rnd))
				if checkFormatted(t, d.Image(), otherRows) {
					return
				}
				last := batches[(k+1)%4]
				if err := store.Format(d, last); err != nil {
					t.Fatalf("Format behind crashes: %v", err)
				}
				checkStore(t, opened(t, d), 64, 2, applied(noRows(), last...))
			})
		}
		if there < 4 || absent < 40 {
			t.Errorf("%d rows: the store was there %d times, absent %d times", len(rows), there, absent)
		}
	}
}

// survivor is a store with what is promised of it behind a crash.
type survivor struct {
	d      *disk.Disk
	s      *store.Store
	before map[string]string
	// behind is what the commit under way would make of them.
	behind map[string]string
	// crashes counts them; kept counts those behind which the commit under way was there.
	crashes, kept int
}

// born formats a new disk, with crashes, until it is there.
func born(t *testing.T, rnd *rand.Rand) *survivor {
	t.Helper()
	v := &survivor{d: made(t, 64+rnd.IntN(4))}
	for v.s == nil {
		ops := anyOps(rnd, 64)
		v.d.Arm(rnd.IntN(10) - 1)
		err := store.Format(v.d, ops)
		if err == api.ErrDown {
			v.d.Crash(anyFate(rnd))
		} else if err == api.ErrFull {
			continue
		} else if err != nil && err != api.ErrExists {
			t.Fatalf("Format: %v", err)
		}
		if err != api.ErrExists {
			v.before = applied(noRows(), ops...)
			v.behind = v.before
		}
		v.d.Arm(-1)
		if s, err := store.Open(v.d); err == nil {
			v.s = s
		} else if err != api.ErrBlank {
			t.Fatalf("Open behind a Format: %v", err)
		}
	}
	checkStore(t, v.s, v.d.Size(), v.s.Version(), v.before)
	return v
}

// crash lets the power go, and opens again and again until that is done.
func (v *survivor) crash(t *testing.T, rnd *rand.Rand) {
	t.Helper()
	v.crashes++
	v.d.Crash(anyFate(rnd))
	for {
		v.d.Arm(rnd.IntN(12) - 4)
		s, err := store.Open(v.d)
		if err == nil {
			v.s = s
			break
		}
		if err != api.ErrDown {
			t.Fatalf("Open behind a crash: %v", err)
		}
		v.d.Crash(anyFate(rnd))
	}
	if got := v.s.Rows(); !slices.Equal(got, listOf(v.before)) {
		v.before = v.behind
		v.kept++
	}
	v.behind = v.before
	checkStore(t, v.s, v.d.Size(), v.s.Version(), v.before)
}

// step is one call of the store.
func (v *survivor) step(t *testing.T, rnd *rand.Rand) {
	t.Helper()
	if rnd.IntN(5) == 0 {
		v.d.Arm(rnd.IntN(8))
	}
	ops, err := anyOps(rnd, v.d.Size()), error(nil)
	if rnd.IntN(12) == 0 {
		ops, err = nil, v.s.Compact()
	} else {
		err = v.s.Commit(ops)
	}
	if err == nil {
		v.before = applied(v.before, ops...)
		v.behind = v.before
	} else if err == api.ErrDown {
		v.behind = applied(v.before, ops...)
	}
	checkStore(t, v.s, v.d.Size(), v.s.Version(), v.before)
	if err == api.ErrDown || rnd.IntN(30) == 0 {
		v.crash(t, rnd)
	}
}

// TestLongLives asks for P13.2, P13.3 and P13.6: from a new disk on through many crashes.
func TestLongLives(t *testing.T) {
	rnd := rand.New(rand.NewPCG(5, 6))
	crashes, kept := 0, 0
	for k := range 120 {
		v := born(t, rnd)
		// Some go through versions at which the stamps get a second byte.
		if k%4 == 0 {
			v.d.Arm(-1)
			for v.s.Version() < 250 {
				if err := v.s.Compact(); err != nil {
					t.Fatal(err)
				}
			}
		}
		for range 150 {
			v.step(t, rnd)
		}
		crashes, kept = crashes+v.crashes, kept+v.kept
	}
	if crashes < 2000 || kept < 200 {
		t.Errorf("%d crashes, behind which the commit under way was there %d times", crashes, kept)
	}
}
