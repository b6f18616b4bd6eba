package disk_test

import (
	"math/rand/v2"
	"remit/api"
	"remit/disk"
	"slices"
	"testing"
)

// put is a write under way.
type put struct {
	place int
	text  string
}

// model says the chapter's words in another way: it looks through the list of what is under way, and builds sectors out of texts. count holds the armed count, or nothing.
type model struct {
	durable []string
	way     []put
	count   []int
	off     bool
	writes  int
	flushes int
	crashes int
}

func newModel(letters string) *model {
	m := &model{}
	for i := range len(letters) {
		m.durable = append(m.durable, full(letters[i:i+1]))
	}
	return m
}

func (m *model) read(i int) (string, error) {
	switch {
	case m.off:
		return "", api.ErrDown
	case i < 0 || i >= len(m.durable):
		return "", api.ErrRange
	}
	text := m.durable[i]
	for _, p := range m.way {
		if p.place == i {
			text = p.text
		}
	}
	return text, nil
}

// goes does what an armed count does behind a write, or ahead of a flush.
func (m *model) goes() bool {
	switch {
	case len(m.count) == 0:
		return false
	case m.count[0] == 0:
		m.off = true
		return true
	}
	m.count = []int{m.count[0] - 1}
	return false
}

func (m *model) write(i int, text string) error {
	if _, err := m.read(i); err != nil {
		return err
	}
	if len(text) != 256 {
		return api.ErrForm
	}
	m.way = append(m.way, put{i, text})
	if m.goes() {
		return api.ErrDown
	}
	m.writes++
	return nil
}

func (m *model) flush() error {
	if m.off || m.goes() {
		return api.ErrDown
	}
	for _, p := range m.way {
		m.durable[p.place] = p.text
	}
	m.way = nil
	m.flushes++
	return nil
}

func (m *model) arm(k int) {
	m.count = nil
	if k >= 0 {
		m.count = []int{k}
	}
}

func (m *model) crash(f api.Fate) {
	for number, p := range m.way {
		old := m.durable[p.place]
		switch {
		case number == f.Torn && f.Bytes < 0:
		case number == f.Torn && f.Bytes < 256:
			m.durable[p.place] = p.text[:f.Bytes] + old[f.Bytes:]
		case number == f.Torn || number < len(f.Kept) && f.Kept[number]:
			m.durable[p.place] = p.text
		}
	}
	m.way, m.count, m.off = nil, nil, false
	m.crashes++
}

// pair is a disk and the model of it.
type pair struct {
	d *disk.Disk
	m *model
}

func newPair(t *testing.T, letters string) pair {
	t.Helper()
	return pair{from(t, letters), newModel(letters)}
}

// check asks the disk for all that it tells.
func (p pair) check(t *testing.T) {
	t.Helper()
	for i := -1; i <= len(p.m.durable); i++ {
		want, wantErr := p.m.read(i)
		if got, err := p.d.Read(i); got != want || err != wantErr {
			t.Fatalf("Read(%d): %q, %v, want %q, %v", i, got, err, want, wantErr)
		}
	}
	if got, want := p.d.Image(), joined(p.m.durable); got != want {
		t.Fatalf("Image: %q, want %q", got, want)
	}
	writes, flushes := p.d.Counts()
	if writes != p.m.writes || flushes != p.m.flushes || p.d.Life() != p.m.crashes {
		t.Fatalf("Counts and Life: %d, %d, %d, want %d, %d, %d", writes, flushes, p.d.Life(), p.m.writes, p.m.flushes, p.m.crashes)
	}
	if p.d.Off() != p.m.off || p.d.Pending() != len(p.m.way) || p.d.Size() != len(p.m.durable) {
		t.Fatalf("Off, Pending and Size: %v, %d, %d, want %v, %d, %d", p.d.Off(), p.d.Pending(), p.d.Size(), p.m.off, len(p.m.way), len(p.m.durable))
	}
}

func joined(sectors []string) string {
	out := ""
	for _, s := range sectors {
		out += s
	}
	return out
}

func (p pair) write(t *testing.T, i int, text string) {
	t.Helper()
	want := p.m.write(i, text)
	if err := p.d.Write(i, text); err != want {
		t.Fatalf("Write(%d, %.4q of %d): %v, want %v", i, text, len(text), err, want)
	}
}

func (p pair) flush(t *testing.T) {
	t.Helper()
	want := p.m.flush()
	if err := p.d.Flush(); err != want {
		t.Fatalf("Flush: %v, want %v", err, want)
	}
}

func (p pair) arm(k int) {
	p.m.arm(k)
	p.d.Arm(k)
}

func (p pair) crash(f api.Fate) {
	p.m.crash(f)
	p.d.Crash(f)
}

// steps are calls on a disk of two sectors.
func steps() []func(*testing.T, pair) {
	out := []func(*testing.T, pair){
		func(t *testing.T, p pair) { p.write(t, 0, full("a")) },
		func(t *testing.T, p pair) { p.write(t, 0, full("b")) },
		func(t *testing.T, p pair) { p.write(t, 1, full("c")) },
		func(t *testing.T, p pair) { p.write(t, 2, full("d")) },
		func(t *testing.T, p pair) { p.write(t, 1, "e") },
		func(t *testing.T, p pair) { p.flush(t) },
	}
	for k := -1; k < 3; k++ {
		out = append(out, func(_ *testing.T, p pair) { p.arm(k) })
	}
	for _, f := range []api.Fate{
		{Torn: -1},
		{Kept: []bool{true, true, true}, Torn: -1},
		{Kept: []bool{false, true}, Torn: 0, Bytes: 10},
		{Kept: []bool{true}, Torn: 1, Bytes: 10},
	} {
		out = append(out, func(_ *testing.T, p pair) { p.crash(f) })
	}
	return out
}

// TestAllOrdersOfCalls asks for P6.1: each list of up to five calls, with all that the disk tells behind each of them.
func TestAllOrdersOfCalls(t *testing.T) {
	list := steps()
	lists := 1
	for size := range 6 {
		for n := range lists {
			p := newPair(t, "x0")
			for range size {
				list[n%len(list)](t, p)
				n /= len(list)
			}
			// The shorter lists were asked already.
			p.check(t)
		}
		lists *= len(list)
	}
}

// fates are those of up to three writes, and of one that isn't there.
func fates() []api.Fate {
	var out []api.Fate
	for size := range 5 {
		for bits := range 1 << size {
			kept := make([]bool, size)
			for i := range kept {
				kept[i] = bits>>i&1 == 1
			}
			out = append(out, api.Fate{Kept: kept, Torn: -1})
			for torn := range 4 {
				for _, bytes := range []int{-1, 0, 1, 7, 8, 128, 248, 255, 256, 257} {
					out = append(out, api.Fate{Kept: kept, Torn: torn, Bytes: bytes})
				}
			}
		}
	}
	return out
}

// TestAllFates asks each fate of each three writes to a disk of three sectors, the power on or gone at the last one.
func TestAllFates(t *testing.T) {
	list := fates()
	for places := range 27 {
		for _, f := range list {
			for _, count := range []int{-1, 2} {
				p := newPair(t, "xyz")
				p.arm(count)
				p.write(t, places%3, full("a"))
				p.write(t, places/3%3, full("b"))
				p.write(t, places/9, full("c"))
				p.crash(f)
				p.check(t)
			}
		}
	}
}

func anySector(rnd *rand.Rand) string {
	raw := make([]byte, api.SectorSize)
	for i := range raw {
		raw[i] = byte(rnd.Uint32())
	}
	return string(raw)
}

// anyFate keeps some of so many writes, and of some that aren't there; it tears none or any.
func anyFate(rnd *rand.Rand, pending int) api.Fate {
	f := api.Fate{Kept: make([]bool, rnd.IntN(pending+3)), Torn: rnd.IntN(pending+3) - 2, Bytes: rnd.IntN(api.SectorSize+40) - 20}
	often := rnd.IntN(5)
	for i := range f.Kept {
		f.Kept[i] = rnd.IntN(4) < often
	}
	return f
}

// anyDisk is a disk of up to six sectors behind any calls, with its model; some writes are under way, the power may be off.
func anyDisk(t *testing.T, rnd *rand.Rand) pair {
	t.Helper()
	p := newPair(t, "uvwxyz"[:1+rnd.IntN(6)])
	for range rnd.IntN(20) {
		anyCall(t, rnd, p)
	}
	return p
}

func anyCall(t *testing.T, rnd *rand.Rand, p pair) {
	t.Helper()
	switch n := rnd.IntN(20); {
	case n < 13:
		p.write(t, rnd.IntN(len(p.m.durable)), anySector(rnd))
	case n < 15:
		p.flush(t)
	case n < 16:
		p.arm(rnd.IntN(10) - 2)
	case n < 18:
		p.crash(anyFate(rnd, p.d.Pending()))
	case n < 19:
		p.write(t, rnd.IntN(len(p.m.durable)+4)-2, anySector(rnd))
	default:
		p.write(t, rnd.IntN(len(p.m.durable)), anySector(rnd)[rnd.IntN(2):]+full("x")[:rnd.IntN(2)])
	}
}

// TestLongListsOfCalls asks for P6.1.
func TestLongListsOfCalls(t *testing.T) {
	rnd := rand.New(rand.NewPCG(1, 2))
	for range 300 {
		p := newPair(t, "stuvwxyz"[:1+rnd.IntN(8)])
		for range 200 {
			anyCall(t, rnd, p)
			p.check(t)
		}
	}
}

// TestFlushedStays asks for P6.2.
func TestFlushedStays(t *testing.T) {
	rnd := rand.New(rand.NewPCG(3, 4))
	flushed := 0
	for range 20000 {
		d := anyDisk(t, rnd).d
		if d.Flush() != nil {
			continue
		}
		flushed++
		want := d.Image()
		if got := joined(sectorsOf(t, d)); got != want {
			t.Fatalf("behind a flush Image is %q, and Read tells %q", want, got)
		}
		for range 3 {
			if rnd.IntN(3) == 0 {
				d.Arm(0)
				checkFlush(t, d, api.ErrDown)
			}
			d.Crash(anyFate(rnd, rnd.IntN(5)))
			if got := d.Image(); got != want {
				t.Fatalf("a crash with nothing under way makes %q of %q", got, want)
			}
		}
	}
	if flushed < 10000 {
		t.Errorf("only %d flushes", flushed)
	}
}

// sectorsOf are the sectors as Read tells them.
func sectorsOf(t *testing.T, d *disk.Disk) []string {
	t.Helper()
	var out []string
	for i := range d.Size() {
		s, err := d.Read(i)
		if err != nil {
			t.Fatalf("Read(%d): %v", i, err)
		}
		out = append(out, s)
	}
	return out
}

// pieces are an image's sectors.
func pieces(image string) []string {
	var out []string
	for i := 0; i < len(image); i += api.SectorSize {
		out = append(out, image[i:i+api.SectorSize])
	}
	return out
}

// TestWhatACrashChanges asks for P6.3.
func TestWhatACrashChanges(t *testing.T) {
	rnd := rand.New(rand.NewPCG(5, 6))
	mixtures := 0
	for range 20000 {
		p := anyDisk(t, rnd)
		// What may stand in each sector behind the crash: what stood there, and what is under way.
		may := make([][]string, p.d.Size())
		for i, s := range pieces(p.d.Image()) {
			may[i] = []string{s}
		}
		for _, w := range p.m.way {
			may[w.place] = append(may[w.place], w.text)
		}
		p.d.Crash(anyFate(rnd, p.d.Pending()))
		mixed := 0
		for i, s := range pieces(p.d.Image()) {
			if slices.Contains(may[i], s) {
				continue
			}
			mixed++
			if !isMixture(s, may[i]) {
				t.Fatalf("sector %d is %q, of %q", i, s, may[i])
			}
		}
		if mixed > 1 {
			t.Fatalf("a crash makes %d mixtures", mixed)
		}
		mixtures += mixed
	}
	if mixtures < 1000 {
		t.Errorf("only %d mixtures", mixtures)
	}
}

// isMixture tells whether s begins as one of list does that was under way, and goes on as one does that was there ahead of it.
func isMixture(s string, list []string) bool {
	for n := range len(s) {
		for later := 1; later < len(list); later++ {
			for earlier := range later {
				if s == list[later][:n]+list[earlier][n:] {
					return true
				}
			}
		}
	}
	return false
}

// TestDiskFromAnImage asks for P6.4.
func TestDiskFromAnImage(t *testing.T) {
	rnd := rand.New(rand.NewPCG(7, 8))
	for range 5000 {
		d := anyDisk(t, rnd).d
		other, err := disk.From(d.Image())
		if err != nil {
			t.Fatal(err)
		}
		got := sectorsOf(t, other)
		d.Crash(api.Fate{Torn: -1})
		if want := sectorsOf(t, d); !slices.Equal(got, want) {
			t.Fatalf("the disk of an image reads %q, want %q", got, want)
		}
		checkFresh(t, other, d.Image())
	}
}
