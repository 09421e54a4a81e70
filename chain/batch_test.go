package chain_test

import (
	"maps"
	"math/rand"
	"slices"
	"strconv"
	"strings"
	"testing"

	"tether/api"
	"tether/chain"
	"tether/disk"
	"tether/table"
)

// Commit of changes adds a record to the journal: Append and Sync.
const addSteps = 2

// wantSteps holds the steps of a batch's Commit against these.
func wantSteps(t *testing.T, d *disk.Disk, b *table.Batch, steps int) {
	t.Helper()
	from := d.Steps()
	must(t, b.Commit())
	if got := d.Steps() - from; got != steps {
		t.Errorf("Commit takes %d steps, want %d", got, steps)
	}
}

// All is done with the batch's Commit, in one record, and not ahead of it.
func TestCommit(t *testing.T) {
	d := disk.New()
	x := open(t, d)
	b := x.Begin()
	m := newModel()
	for i := range 6 {
		wantAdd(t, b, page(i), i, m.add(page(i), i))
	}
	wantVersions(t, x.Begin())
	wantSteps(t, d, b, addSteps)
	wantKept(t, b, m)
	wantKept(t, x.Begin(), m)
	wantKept(t, open(t, d).Begin(), m)

	ahead := m.clone()
	wantDrop(t, b, 2, m.drop(2))
	wantKept(t, b, m)
	wantKept(t, x.Begin(), ahead)
	wantKept(t, open(t, d).Begin(), ahead)
	wantSteps(t, d, b, addSteps)
	wantKept(t, open(t, d).Begin(), m)
}

// Rule 3: what is asked and what is refused make no changes of the batch.
func TestNothingToCommit(t *testing.T) {
	d := disk.New()
	x := open(t, d)
	b := x.Begin()
	addPages(t, b, 3)
	must(t, b.Commit())
	wantDepths(t, b, 0, 1, 2)
	wantContent(t, b, 3, page(3))
	wantVersions(t, b, 1, 2, 3)
	for _, id := range []int{0, -1, 4, 99} {
		wantNone(t, b, id)
	}
	chain.Bytes(b)
	wantSteps(t, d, b, 0)
}

// This layer puts no keys but the two kinds that are its own, leaves those of others, and takes none of them for a version.
func TestOtherKeys(t *testing.T) {
	others := []string{"", "1", "V/1", "a", "b/43/0", "nex", "next/1", "nexu", "v", "v.", "v0", "vv/1"}
	b := batch(t)
	for _, key := range others {
		b.Put(key, "of others")
	}
	addPages(t, b, 12)
	wantDrop(t, b, 3, api.OK)
	wantVersions(t, b, 1, 2, 4, 5, 6, 7, 8, 9, 10, 11, 12)
	for _, id := range chain.Versions(b) {
		wantDrop(t, b, id, api.OK)
	}
	if keys := b.Keys("v/"); len(keys) != 0 {
		t.Errorf("left: %q", keys)
	}
	wantAdd(t, b, "a", 1, 13)
	for _, key := range b.Keys("") {
		if v, _ := b.Get(key); key != "next" && !strings.HasPrefix(key, "v/") && v != "of others" {
			t.Errorf("%q is %q", key, v)
		}
	}
	if left := slices.DeleteFunc(b.Keys(""), func(key string) bool { return key == "next" || strings.HasPrefix(key, "v/") }); !slices.Equal(left, others) {
		t.Errorf("others' keys: %q", left)
	}
}

// Rule 4: what is done with an answer isn't seen.
func TestMemory(t *testing.T) {
	b := batch(t)
	addPages(t, b, 3)
	list := chain.Versions(b)
	list = list[:cap(list)]
	for i := range list {
		list[i] = 99
	}
	wantVersions(t, b, 1, 2, 3)
}

// Rule 1: of a nil batch and of a nil table's the calls end.
func TestNil(t *testing.T) {
	for _, b := range []*table.Batch{nil, (*table.Table)(nil).Begin()} {
		chain.Add(b, "a", 1)
		chain.Get(b, 1)
		chain.Depth(b, 1)
		chain.Versions(b)
		chain.Bytes(b)
		chain.Drop(b, 1)
	}
}

// text answers one of many texts, some of them much alike, some not at all, a few above the limit.
func text(source *rand.Rand) string {
	switch source.Intn(12) {
	case 0:
		return strings.Repeat("z", source.Intn(3))
	case 1:
		return strings.Repeat(strconv.Itoa(source.Intn(3)), api.MaxData-1+source.Intn(3))
	case 2:
		return strings.Repeat("another text ", source.Intn(6))
	}
	lines := make([]string, 3+source.Intn(4))
	for i := range lines {
		lines[i] = "line " + strconv.Itoa(source.Intn(5)) + " of the page\n"
	}
	return strings.Join(lines, "")
}

// change does one call on a batch and on the model, and holds their answers against each other.
func change(t *testing.T, source *rand.Rand, b *table.Batch, m *model) {
	t.Helper()
	ids := append(slices.Sorted(maps.Keys(m.versions)), 0, m.last+1)
	id := ids[source.Intn(len(ids))]
	if source.Intn(5) < 2 {
		wantDrop(t, b, id, m.drop(id))
		return
	}
	if source.Intn(2) == 0 {
		id = m.last
	}
	data := text(source)
	wantAdd(t, b, data, id, m.add(data, id))
}

// 10.1 to 10.5: scripts of all calls held against the model, with batches that are committed, given up, and opened again.
func TestScripts(t *testing.T) {
	deepest := 0
	for seed := range 40 {
		source := rand.New(rand.NewSource(int64(seed)))
		d := disk.New()
		x := open(t, d)
		done := newModel()
		for range 30 {
			b := x.Begin()
			m := done.clone()
			for range source.Intn(12) {
				change(t, source, b, m)
				wantKept(t, b, m)
				deepest = max(deepest, m.depth(m.last))
			}
			switch source.Intn(4) {
			case 0: // given up
			case 1:
				must(t, b.Commit())
				x, done = open(t, d), m
			default:
				must(t, b.Commit())
				done = m
			}
			wantKept(t, x.Begin(), done)
		}
	}
	if deepest != api.MaxChain {
		t.Errorf("the deepest one is told by %d steps", deepest)
	}
}

// 10.5: all orders in which the versions of a row and of a fork can be dropped leave the others as they were.
func TestAllOrders(t *testing.T) {
	for _, nears := range [][]int{{0, 1, 2, 3, 4, 5}, {0, 1, 2, 2, 3, 1}, {0, 1, 1, 1, 2, 4}} {
		b := batch(t)
		m := newModel()
		for i, near := range nears {
			wantAdd(t, b, page(i), near, m.add(page(i), near))
		}
		must(t, b.Commit())
		dropAll(t, b, m)
	}
}

// dropAll drops all versions, in each order.
func dropAll(t *testing.T, b *table.Batch, m *model) {
	t.Helper()
	d := disk.New()
	x := open(t, d)
	orders := 0
	var try func(order []int)
	try = func(order []int) {
		if len(order) == len(m.versions) {
			orders++
			b := copyOf(t, x, b)
			m := m.clone()
			for _, id := range order {
				wantDrop(t, b, id, m.drop(id))
				wantKept(t, b, m)
			}
			return
		}
		for id := range m.versions {
			if !slices.Contains(order, id) {
				try(append(slices.Clone(order), id))
			}
		}
	}
	try(nil)
	if orders != 720 {
		t.Errorf("%d orders", orders)
	}
}

// copyOf answers a batch of a table with the keys of another one.
func copyOf(t *testing.T, x *table.Table, b *table.Batch) *table.Batch {
	t.Helper()
	out := x.Begin()
	for _, key := range b.Keys("") {
		v, _ := b.Get(key)
		out.Put(key, v)
	}
	return out
}

// isKept tells whether just what the model has is kept.
func isKept(b *table.Batch, m *model) bool {
	if !slices.Equal(chain.Versions(b), slices.Sorted(maps.Keys(m.versions))) {
		return false
	}
	for id, v := range m.versions {
		if data, e := chain.Get(b, id); data != v.data || e != api.OK {
			return false
		}
	}
	return true
}

// 10.5: wherever the machine stops, what a batch has added and dropped is all done or none of it.
func TestStops(t *testing.T) {
	for seed := range 20 {
		source := rand.New(rand.NewSource(int64(seed)))
		d := disk.New()
		done := newModel()
		for range 12 {
			x := open(t, d)
			d.Arm(source.Intn(3 * addSteps * api.MaxWal))
			var m *model
			e := api.OK
			for e == api.OK {
				b := x.Begin()
				m = done.clone()
				// Each batch changes something, so that the machine comes to its stop.
				near := m.last
				wantAdd(t, b, page(near), near, m.add(page(near), near))
				for range source.Intn(5) {
					change(t, source, b, m)
				}
				if e = b.Commit(); e == api.OK {
					done = m
				}
			}
			if e != api.ErrDown {
				t.Fatalf("Commit = %d", e)
			}
			must(t, d.Restart(int(source.Uint64())))
			b := open(t, d).Begin()
			if isKept(b, m) {
				done = m
			}
			wantKept(t, b, done)
		}
	}
}
