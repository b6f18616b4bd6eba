package store

import (
	"remit/api"
	"remit/batch"
	"remit/table"
	"remit/wire"
)

// content is the rows of a store, and how many bytes a snapshot has of them, their number's aside. It is counted on from batch to batch, since a commit would have to go over all rows else.
type content struct {
	rows  *table.Table
	bytes int
}

func noContent() content { return content{rows: table.New()} }

// size is the length of the snapshot.
func (c content) size() int { return numberSize(c.rows.Len()) + c.bytes }

// after is the content behind a batch in normal form: with a key in it twice, a row would be counted twice.
func (c content) after(ops []api.Op) content {
	next := content{c.rows.Clone(), c.bytes}
	for _, op := range ops {
		if old, found := c.rows.Get(op.Key); found {
			next.bytes -= textSize(op.Key) + textSize(old)
		}
		if !op.Delete {
			next.bytes += textSize(op.Key) + textSize(op.Value)
		}
	}
	batch.Apply(next.rows, ops)
	return next
}

// snapshot is the bytes of the rows.
func (c content) snapshot() string {
	w := wire.New()
	w.Uint(uint64(c.rows.Len()))
	for key, value := range c.rows.From("") {
		w.Text(key)
		w.Text(value)
	}
	return w.Out()
}

// contentIn is the content of which these bytes are the snapshot. It gives up where they are of none.
func contentIn(snapshot string) content {
	r := wire.Read(snapshot)
	var ops []api.Op
	// The list grows with what is really there: the number ahead may promise more than memory holds.
	for i := range must(r.Uint()) {
		key, value := must(r.Text(len(snapshot))), must(r.Text(len(snapshot)))
		need(i == 0 || ops[i-1].Key < key)
		ops = append(ops, api.Op{Key: key, Value: value})
	}
	need(r.Done() == nil)
	return noContent().after(ops)
}

// numberSize is how many bytes a number has in a snapshot.
func numberSize(n int) int {
	w := wire.New()
	w.Uint(uint64(n))
	return w.Len()
}

// textSize is how many bytes a text has in a snapshot.
func textSize(s string) int { return numberSize(len(s)) + len(s) }
