package table

import (
	"slices"
	"strings"

	"tether/api"
)

// Batch is a row of changes that isn't done yet.
type Batch struct {
	table  *Table
	ops    []api.Op       // one of a key, in the order in which the keys first came
	places map[string]int // by key: where in ops its change stands
}

// Begin answers a batch without changes.
func (t *Table) Begin() *Batch {
	return &Batch{table: t, places: map[string]int{}}
}

// Put gives a key a value.
func (b *Batch) Put(key, v string) {
	b.change(api.Op{Key: key, Value: v})
}

// Drop takes a key away.
func (b *Batch) Drop(key string) {
	b.change(api.Op{Key: key, Gone: true})
}

// Get answers a key's value as it would be.
func (b *Batch) Get(key string) (string, bool) {
	if b == nil {
		return "", false
	}
	at, changed := b.places[key]
	if !changed {
		return b.table.Get(key)
	}
	op := b.ops[at]
	return op.Value, !op.Gone
}

// Keys answers all keys that would be there and begin so, rising.
func (b *Batch) Keys(prefix string) []string {
	if b == nil {
		return nil
	}
	var out []string
	for _, key := range b.table.Keys(prefix) {
		if _, changed := b.places[key]; !changed {
			out = append(out, key)
		}
	}
	for _, op := range b.ops {
		if !op.Gone && strings.HasPrefix(op.Key, prefix) {
			out = append(out, op.Key)
		}
	}
	slices.Sort(out)
	return out
}

// Commit does all changes.
func (b *Batch) Commit() api.Errno {
	if b == nil || b.table == nil {
		return api.ErrInput
	}
	if len(b.ops) == 0 {
		return api.OK
	}
	t := b.table
	if e := t.log.Add(Record(b.ops)); e != api.OK {
		return e
	}
	t.do(b.ops)
	b.ops, b.places = nil, map[string]int{}
	if len(t.log.Records()) >= api.MaxWal {
		return t.Pack()
	}
	return api.OK
}

// change puts a change in the place of an earlier one of its key, or behind the others.
func (b *Batch) change(op api.Op) {
	if b == nil {
		return
	}
	if at, changed := b.places[op.Key]; changed {
		b.ops[at] = op
		return
	}
	b.places[op.Key] = len(b.ops)
	b.ops = append(b.ops, op)
}
