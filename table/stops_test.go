package table_test

import (
	"maps"
	"math/rand"
	"strconv"
	"strings"
	"testing"

	"tether/api"
	"tether/disk"
	"tether/table"
)

// behind answers what is held behind changes.
func behind(held pairs, ops []api.Op) pairs {
	out := pairs{}
	maps.Copy(out, held)
	for _, op := range ops {
		if op.Gone {
			delete(out, op.Key)
		} else {
			out[op.Key] = op.Value
		}
	}
	return out
}

// run opens the table and commits the batches till the machine stops: what is sure, and what is there if the batch that was stopped is done. A batch of no changes stands for Pack.
func run(t *testing.T, d *disk.Disk, batches [][]api.Op, held pairs) (sure, perhaps pairs) {
	t.Helper()
	x, e := table.Open(d, dir)
	if e == api.ErrDown {
		return held, held
	}
	must(t, e)
	wantHeld(t, "opened", x, held)
	for _, ops := range batches {
		e := commit(x, ops)
		if e == api.ErrDown {
			return held, behind(held, ops)
		}
		must(t, e)
		held = behind(held, ops)
		wantHeld(t, "committed", x, held)
	}
	return held, held
}

func commit(x *table.Table, ops []api.Op) api.Errno {
	if len(ops) == 0 {
		return x.Pack()
	}
	b := x.Begin()
	for _, op := range ops {
		if op.Gone {
			b.Drop(op.Key)
		} else {
			b.Put(op.Key, op.Value)
		}
	}
	return b.Commit()
}

// same tells whether a table holds these keys with these values, and no others.
func same(x *table.Table, held pairs) bool {
	if len(x.Keys("")) != len(held) {
		return false
	}
	for key, v := range held {
		if got, ok := x.Get(key); got != v || !ok {
			return false
		}
	}
	return true
}

// wantOpened opens the table behind a stop, and answers which of the two it holds.
func wantOpened(t *testing.T, d *disk.Disk, sure, perhaps pairs) pairs {
	t.Helper()
	x := open(t, d)
	held := sure
	if !same(x, sure) {
		held = perhaps
	}
	wantHeld(t, "behind the stop", x, held)
	return held
}

func someBatches() [][]api.Op {
	out := [][]api.Op{
		{{Key: "a", Value: "1"}, {Key: "b", Value: strings.Repeat("long ", 30)}},
		{{Key: "b", Gone: true}, {Key: "c", Value: ""}},
		nil,
		{{Key: "", Value: "2"}, {Key: "a", Gone: true}},
	}
	for i := range api.MaxWal + 1 {
		out = append(out, []api.Op{{Key: "n", Value: strconv.Itoa(i)}, {Key: "n" + strconv.Itoa(i%3), Value: "x"}, {Key: "n" + strconv.Itoa((i+1)%3), Gone: true}})
	}
	return out
}

// countSteps answers how many steps the batches take, Open ahead of them.
func countSteps(t *testing.T, batches [][]api.Op) int {
	d := disk.New()
	run(t, d, batches, nil)
	return d.Steps()
}

// 7.6: each place of a stop, with many losses, and one more batch behind it.
func TestStops(t *testing.T) {
	batches := someBatches()
	steps := countSteps(t, batches)
	if least := openSteps + 2*packSteps + addSteps*len(batches) - addSteps; steps != least {
		t.Fatalf("%d steps, want %d", steps, least)
	}
	for n := range steps + 1 {
		for loss := range 25 {
			d := disk.New()
			d.Arm(n)
			sure, perhaps := run(t, d, batches, nil)
			must(t, d.Restart(loss))
			held := wantOpened(t, d, sure, perhaps)
			held, _ = run(t, d, [][]api.Op{{{Key: "more", Value: "1"}, {Key: "c", Gone: true}}}, held)
			must(t, d.Restart(loss+1))
			wantOpened(t, d, held, held)
		}
	}
}

// 7.6: more stops while the table is opened behind the first one.
func TestStopsWhileOpening(t *testing.T) {
	batches := someBatches()
	for n := range countSteps(t, batches) + 1 {
		for loss := range 10 {
			d := disk.New()
			d.Arm(n)
			sure, perhaps := run(t, d, batches, nil)
			for again := range openSteps + 1 {
				must(t, d.Restart(loss*11+again))
				d.Arm(again)
				if _, e := table.Open(d, dir); e != api.OK {
					want(t, "Open", e, api.ErrDown)
					continue
				}
				d.Arm(-1)
				sure = wantOpened(t, d, sure, perhaps)
				perhaps = sure
			}
			must(t, d.Restart(loss))
			wantOpened(t, d, sure, perhaps)
		}
	}
}

// 7.6: of a batch that was stopped ahead of Sync, all or nothing is there, and both do come about; ahead of Append nothing; behind Sync all.
func TestBothComeAbout(t *testing.T) {
	for n, c := range []struct{ none, all bool }{{true, false}, {true, true}, {false, true}} {
		var none, all bool
		for loss := range 200 {
			d := disk.New()
			x := open(t, d)
			for range api.MaxWal - 1 {
				put(t, x, "a", "1")
			}
			d.Arm(n)
			ops := []api.Op{{Key: "a", Gone: true}, {Key: "b", Value: "2"}, {Key: "c", Value: "3"}}
			want(t, "Commit", commit(x, ops), api.ErrDown)
			must(t, d.Restart(loss))
			held := wantOpened(t, d, pairs{"a": "1"}, pairs{"b": "2", "c": "3"})
			none = none || len(held) == 1
			all = all || len(held) == 2
		}
		if none != c.none || all != c.all {
			t.Errorf("armed by %d: none of it %v, all of it %v", n, none, all)
		}
	}
}

// 7.6: a base with a turned bit behind its length is refused, and is left as it is.
func TestRottenBase(t *testing.T) {
	for _, v := range []string{"", "1", strings.Repeat("long ", 40)} {
		d := disk.New()
		x := open(t, d)
		put(t, x, "a", v)
		put(t, x, "b", "2")
		must(t, x.Pack())
		put(t, x, "c", "3")
		data, _ := d.Read(base)
		text := table.Record([]api.Op{{Key: "a", Value: v}, {Key: "b", Value: "2"}})
		lengthBytes := len(framed(text)) - len(text) - 4
		wantFile(t, d, base, framed(text))
		for bit := 8 * lengthBytes; bit < 8*len(data); bit++ {
			must(t, d.Rot(base, bit))
			wantRefused(t, d, dir, api.ErrSum)
			must(t, d.Rot(base, bit))
		}
		wantHeld(t, "turned back", open(t, d), pairs{"a": v, "b": "2", "c": "3"})
	}
}

// Rule 1: no bit of a file that turns makes a call panic, and no table is answered beside an error.
func TestRottenBits(t *testing.T) {
	for _, p := range []string{base, log} {
		for bit := range 400 {
			d := disk.New()
			x := open(t, d)
			put(t, x, "a", strings.Repeat("v", 20))
			must(t, x.Pack())
			put(t, x, "b", strings.Repeat("w", 20))
			put(t, x, "c", "3")
			must(t, d.Rot(p, bit))
			y, e := table.Open(d, dir)
			if (y == nil) != (e != api.OK) {
				t.Errorf("Open = %v beside %d", y, e)
			}
			if p == log && e != api.OK {
				t.Errorf("bit %d of the journal: Open = %d", bit, e)
			}
		}
	}
}

func someChanges(source *rand.Rand) []api.Op {
	if source.Intn(15) == 0 {
		return nil
	}
	ops := make([]api.Op, 1+source.Intn(4))
	for i := range ops {
		ops[i] = api.Op{Key: strings.Repeat("k", source.Intn(4)) + strconv.Itoa(source.Intn(4)), Gone: source.Intn(3) == 0}
		if !ops[i].Gone {
			ops[i].Value = strings.Repeat(strconv.Itoa(source.Intn(10)), source.Intn(6)*source.Intn(40))
		}
	}
	return ops
}

// 7.2 to 7.6: scripts of batches with many stops, each opening behind one held against what was acknowledged.
func TestScripts(t *testing.T) {
	for seed := range 40 {
		source := rand.New(rand.NewSource(int64(seed)))
		d := disk.New()
		held := pairs{}
		for range 25 {
			batches := make([][]api.Op, source.Intn(25))
			for i := range batches {
				batches[i] = someChanges(source)
			}
			d.Arm(source.Intn(60))
			sure, perhaps := run(t, d, batches, held)
			must(t, d.Restart(int(source.Uint64())))
			held = wantOpened(t, d, sure, perhaps)
		}
	}
}
