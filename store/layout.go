package store

import (
	"remit/api"
	"remit/area"
	"remit/batch"
	"remit/disk"
	"remit/journal"
	"remit/slots"
	"remit/wire"
)

const (
	slotsAt   = 0
	slotCount = 2
	// areaCount is how many areas take turns, as the slots do: a snapshot that is cut off leaves the one before it whole.
	areaCount = 2
)

// Layout is where things lie on a disk of n sectors: the areas' first sectors, how many sectors each has, the log's first sector, how many it has.
func Layout(n int) (int, int, int, int, int, error) {
	if n < api.MinSectors {
		return 0, 0, 0, 0, 0, api.ErrSmall
	}
	if n > api.MaxSectors {
		return 0, 0, 0, 0, 0, api.ErrRange
	}
	each := (n - slotCount) / (areaCount + 1)
	first := slotsAt + slotCount
	second := first + each
	log := second + each
	return first, second, each, log, n - log, nil
}

// layout is a disk, and where things lie on it.
type layout struct {
	disk  *disk.Disk
	areas [areaCount]int
	each  int
	logAt int
	logN  int
}

func layoutOf(d *disk.Disk) (layout, error) {
	first, second, each, logAt, logN, err := Layout(d.Size())
	if err != nil {
		return layout{}, err
	}
	return layout{d, [areaCount]int{first, second}, each, logAt, logN}, nil
}

// room is the length of the greatest snapshot.
func (l layout) room() int { return area.Room(l.each) }

// areaOf is where the snapshot of a version begins.
func (l layout) areaOf(version int) int { return l.areas[version%areaCount] }

// log is the log of a version.
type log struct {
	version int
	journal *journal.Journal
}

// add appends a record, durably.
func (g log) add(record string) error {
	if err := g.journal.Append(record); err != nil {
		return err
	}
	return g.journal.Sync()
}

// behind makes a snapshot of the version behind this one, and answers its log.
func (l layout) behind(version int, c content) (log, error) {
	// Asked ahead of the area, since the slot would refuse the version when the area is written already.
	if version >= api.MaxVersion {
		return log{}, api.ErrWorn
	}
	return l.begin(version+1, c)
}

// begin makes a snapshot for a version, and answers its log. The slot comes behind the area's flush, so that it never stands for a snapshot that doesn't.
func (l layout) begin(version int, c content) (log, error) {
	snapshot := c.snapshot()
	if err := area.Write(l.disk, l.areaOf(version), l.each, uint64(version), snapshot); err != nil {
		return log{}, err
	}
	if err := slots.Write(l.disk, slotsAt, version, l.slotValue(len(snapshot))); err != nil {
		return log{}, err
	}
	j, err := journal.Begin(l.disk, l.logAt, l.logN, version)
	if err != nil {
		return log{}, err
	}
	return log{version, j}, nil
}

// slotValue is what a slot says of a snapshot of so many bytes.
func (l layout) slotValue(bytes int) string {
	w := wire.New()
	w.Uint(uint64(l.disk.Size()))
	w.Uint(uint64(bytes))
	return w.Out()
}

// bytesIn is how many bytes the snapshot has of which a slot says this. It gives up where a slot says something else.
func (l layout) bytesIn(value string) int {
	r := wire.Read(value)
	size := must(r.Upto(api.MaxSectors))
	bytes := must(r.Upto(l.room()))
	need(size == l.disk.Size() && r.Done() == nil)
	return bytes
}

// read is the version and the rows that lie on the disk. It gives up where a slot counts, but what belongs to it is broken.
func (l layout) read() (int, content, error) {
	value, version, err := slots.Read(l.disk, slotsAt)
	if err != nil {
		return 0, content{}, err
	}
	snapshot := must(area.Read(l.disk, l.areaOf(version), l.each, uint64(version), l.bytesIn(value)))
	c := contentIn(snapshot)
	for _, record := range must(journal.Replay(l.disk, l.logAt, l.logN, version)) {
		c = c.after(must(batch.Decode(record)))
	}
	need(c.size() <= l.room())
	return version, c, nil
}
