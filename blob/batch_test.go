package blob_test

import (
	"maps"
	"math/rand"
	"slices"
	"strconv"
	"strings"
	"testing"

	"tether/api"
	"tether/blob"
	"tether/disk"
	"tether/table"
)

// wantSteps holds the steps of a batch's Commit against these.
func wantSteps(t *testing.T, d *disk.Disk, b *table.Batch, steps int) {
	t.Helper()
	from := d.Steps()
	must(t, b.Commit())
	if got := d.Steps() - from; got != steps {
		t.Errorf("Commit takes %d steps, want %d", got, steps)
	}
}

// Commit of changes adds a record to the journal: Append and Sync.
const addSteps = 2

// All is done with the batch's Commit, in one record, and not ahead of it; what isn't committed is as if it weren't.
func TestCommit(t *testing.T) {
	d := disk.New()
	x := open(t, d)
	b := x.Begin()
	left := x.Begin()
	other := alike(lowOfA, 1)[0]
	blob.Put(left, other)
	blob.Put(b, "a")
	blob.Put(b, "a")
	blob.Put(b, other)
	wantKept(t, x.Begin(), model{})
	wantKept(t, left, model{"b/43/0": {1, other}})
	wantSteps(t, d, b, addSteps)
	m := model{"b/43/0": {2, "a"}, "b/43/1": {1, other}}
	wantKept(t, b, m)
	wantKept(t, x.Begin(), m)
	wantKept(t, open(t, d).Begin(), m)

	b = x.Begin()
	must(t, blob.Release(b, "b/43/0"))
	must(t, blob.Release(b, "b/43/1"))
	wantKept(t, x.Begin(), m)
	wantKept(t, open(t, d).Begin(), m)
	wantSteps(t, d, b, addSteps)
	wantKept(t, open(t, d).Begin(), model{"b/43/0": {1, "a"}})

	b = x.Begin()
	if n := blob.Sweep(b, nil); n != 1 {
		t.Errorf("Sweep = %d", n)
	}
	wantKept(t, x.Begin(), model{"b/43/0": {1, "a"}})
	wantSteps(t, d, b, addSteps)
	wantKept(t, open(t, d).Begin(), model{})
}

// Rule 3: what is asked, what is refused, and a Sweep by which nothing becomes other make no changes of the batch.
func TestNothingToCommit(t *testing.T) {
	d := disk.New()
	x := open(t, d)
	b := x.Begin()
	blob.Put(b, "a")
	blob.Put(b, "a")
	key := blob.Put(b, "b")
	must(t, b.Commit())
	wantContent(t, b, "b/43/0", "a", 2)
	wantNone(t, b, "b/43/1")
	wantNone(t, b, "x")
	if n := blob.Sweep(b, []string{"b/43/0", key, "none", "b/43/0"}); n != 0 {
		t.Errorf("Sweep = %d", n)
	}
	wantSteps(t, d, b, 0)
}

// 8.6: behind many Commits, with bases among them, everything is got by its key, opened again or not.
func TestOpenedAgain(t *testing.T) {
	d := disk.New()
	x := open(t, d)
	m := model{}
	for i := range 3*api.MaxWal + 5 {
		b := x.Begin()
		for _, data := range []string{strings.Repeat(strconv.Itoa(i), 1+i*7), "again", strconv.Itoa(i % 5)} {
			wantPut(t, b, data, m.put(data))
		}
		if i%4 == 3 {
			key := slices.Min(slices.Collect(maps.Keys(m)))
			if e := blob.Release(b, key); e != m.release(key) {
				t.Errorf("Release(%q) = %d", key, e)
			}
		}
		must(t, b.Commit())
		wantKept(t, x.Begin(), m)
		if i%3 == 0 {
			x = open(t, d)
			wantKept(t, x.Begin(), m)
		}
	}
	if d.Kind(dir+"/base") != api.File {
		t.Error("no base")
	}
}

// someAlike are contents of the same two digits.
var someAlike = alike(lowOfA, 9)

// change does one call on a batch and on the model, and holds their answers against each other.
func change(t *testing.T, source *rand.Rand, b *table.Batch, m model) {
	t.Helper()
	keys := append(slices.Sorted(maps.Keys(m)), "b/43/0", "b/43/4", "none")
	switch n := source.Intn(20); {
	case n < 10:
		data := someAlike[source.Intn(len(someAlike))]
		if source.Intn(3) == 0 {
			data = strings.Repeat(strconv.Itoa(source.Intn(3)), source.Intn(4))
		}
		wantPut(t, b, data, m.put(data))
	case n < 19:
		key := keys[source.Intn(len(keys))]
		if got, wanted := blob.Release(b, key), m.release(key); got != wanted {
			t.Fatalf("Release(%q) = %d, want %d", key, got, wanted)
		}
	default:
		held := make([]string, source.Intn(3*len(keys)))
		for i := range held {
			held[i] = keys[source.Intn(len(keys))]
		}
		if got, wanted := blob.Sweep(b, held), m.sweep(held); got != wanted {
			t.Fatalf("Sweep(%q) = %d, want %d", held, got, wanted)
		}
	}
}

// 8.1 to 8.6: scripts of all calls held against the model, with batches that are committed, given up, and opened again.
func TestScripts(t *testing.T) {
	for seed := range 60 {
		source := rand.New(rand.NewSource(int64(seed)))
		d := disk.New()
		x := open(t, d)
		done := model{}
		for range 40 {
			b := x.Begin()
			m := maps.Clone(done)
			for range source.Intn(12) {
				change(t, source, b, m)
				wantKept(t, b, m)
			}
			switch source.Intn(4) {
			case 0: // given up
			case 1:
				must(t, b.Commit())
				x, done = open(t, d), m
			default:
				must(t, b.Commit())
				done = m
			}
			wantKept(t, x.Begin(), done)
		}
	}
}

// isKept tells whether just what the model has is kept.
func isKept(b *table.Batch, m model) bool {
	if !slices.Equal(b.Keys("b/"), slices.Sorted(maps.Keys(m))) {
		return false
	}
	for key, k := range m {
		if data, _ := blob.Get(b, key); data != k.data || blob.Refs(b, key) != k.held {
			return false
		}
	}
	return true
}

// 8.6: wherever the machine stops, what a batch has put and released is all done or none of it.
func TestStops(t *testing.T) {
	for seed := range 30 {
		source := rand.New(rand.NewSource(int64(seed)))
		d := disk.New()
		done := model{}
		for range 15 {
			x := open(t, d)
			d.Arm(source.Intn(4 * addSteps * api.MaxWal))
			var m model
			e := api.OK
			for e == api.OK {
				b := x.Begin()
				m = maps.Clone(done)
				// Each batch changes something, so that the machine comes to its stop.
				wantPut(t, b, strconv.Itoa(d.Steps()), m.put(strconv.Itoa(d.Steps())))
				for range source.Intn(5) {
					change(t, source, b, m)
				}
				if e = b.Commit(); e == api.OK {
					done = m
				}
			}
			if e != api.ErrDown {
				t.Fatalf("Commit = %d", e)
			}
			must(t, d.Restart(int(source.Uint64())))
			b := open(t, d).Begin()
			if isKept(b, m) {
				done = m
			}
			wantKept(t, b, done)
		}
	}
}
