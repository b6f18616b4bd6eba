package txn

import (
	"iter"
	"remit/api"
	"remit/batch"
	"remit/table"
)

// changes are in what the rows that a transaction sees differ from the store's, and nothing beside that: so a row that is set back needs no write. Once made they stay as they are, so that a step can be undone by going back to those ahead of it; a clone of a table costs nothing.
type changes struct {
	// puts are the rows that the store has with another value, or not at all.
	puts *table.Table
	// gone are the keys of the store's rows that are seen no more; their values are empty.
	gone *table.Table
}

func noChanges() changes { return changes{table.New(), table.New()} }

// without are changes of their own in which nothing is said of a key.
func (c changes) without(key string) changes {
	next := changes{c.puts.Clone(), c.gone.Clone()}
	next.puts.Delete(key)
	next.gone.Delete(key)
	return next
}

// hides tells whether the store's row of a key is seen no more.
func (c changes) hides(key string) bool {
	_, gone := c.gone.Get(key)
	return gone
}

// replaces tells whether another row is seen of a key than the store's.
func (c changes) replaces(key string) bool {
	_, put := c.puts.Get(key)
	return put
}

// over goes over the rows that are seen from lo on and below hi, of which stored are the store's.
func (c changes) over(stored iter.Seq2[string, string], lo, hi string) iter.Seq2[string, string] {
	return func(yield func(string, string) bool) {
		from := lo
		for key, value := range stored {
			if !toldAll(c.puts.Range(from, key), yield) {
				return
			}
			// A row in the place of this one is the first of the puts from here on, and is told with them.
			from = key
			if !c.hides(key) && !c.replaces(key) && !yield(key, value) {
				return
			}
		}
		toldAll(c.puts.Range(from, hi), yield)
	}
}

// ops are the batch that does the changes.
func (c changes) ops() []api.Op {
	var ops []api.Op
	for key, value := range c.puts.From("") {
		ops = append(ops, api.Op{Key: key, Value: value})
	}
	for key := range c.gone.From("") {
		ops = append(ops, api.Op{Delete: true, Key: key})
	}
	return batch.Normal(ops)
}

// toldAll tells rows one after the other, and whether none of them was the last one that was asked for.
func toldAll(rows iter.Seq2[string, string], yield func(string, string) bool) bool {
	for key, value := range rows {
		if !yield(key, value) {
			return false
		}
	}
	return true
}
