package wal_test

import (
	"math/rand"
	"slices"
	"strings"
	"testing"

	"tether/api"
	"tether/disk"
	"tether/frame"
	"tether/wal"
)

// deed is a call on a journal: Reset, or Add of a record.
type deed struct {
	reset  bool
	record string
}

func (c deed) on(l *wal.Log) api.Errno {
	if c.reset {
		return l.Reset()
	}
	return l.Add(c.record)
}

// behind answers what the records are behind a deed that is done.
func (c deed) behind(records []string) []string {
	if c.reset {
		return nil
	}
	return append(slices.Clone(records), c.record)
}

// run opens the journal and does the deeds till the machine stops: the records that are sure, and those that are there if what was stopped is done.
func run(t *testing.T, d *disk.Disk, deeds []deed, had []string) (sure, perhaps []string) {
	t.Helper()
	sure = had
	l, e := wal.Open(d, file)
	if e == api.ErrDown {
		return sure, sure
	}
	must(t, e)
	for _, c := range deeds {
		e := c.on(l)
		if e == api.ErrDown {
			return sure, c.behind(sure)
		}
		must(t, e)
		sure = c.behind(sure)
		wantRecords(t, l, sure...)
	}
	return sure, sure
}

// wantOpened opens the journal behind a stop, and answers its records.
func wantOpened(t *testing.T, d *disk.Disk, sure, perhaps []string) []string {
	t.Helper()
	l := open(t, d, file)
	got := l.Records()
	if !slices.Equal(got, sure) && !slices.Equal(got, perhaps) {
		t.Fatalf("behind the stop: %q, want %q or %q", got, sure, perhaps)
	}
	wantDamaged(t, l, false)
	wantFile(t, d, file, frames(got...))
	return got
}

func someDeeds() []deed {
	return []deed{{record: "one"}, {record: ""}, {record: strings.Repeat("long ", 30)}, {reset: true}, {record: "two"}, {record: "two"}, {reset: true}, {reset: true}, {record: "\x00"}}
}

// countSteps answers how many steps the deeds take, Open ahead of them.
func countSteps(t *testing.T, deeds []deed) int {
	d := volume(t)
	from := d.Steps()
	run(t, d, deeds, nil)
	return d.Steps() - from
}

// 6.6: each place of a stop, with many losses.
func TestStops(t *testing.T) {
	deeds := someDeeds()
	for n := range countSteps(t, deeds) + 1 {
		for loss := range 80 {
			d := volume(t)
			d.Arm(n)
			sure, perhaps := run(t, d, deeds, nil)
			must(t, d.Restart(loss))
			got := wantOpened(t, d, sure, perhaps)
			sure, _ = run(t, d, []deed{{record: "more"}}, got)
			must(t, d.Restart(loss+1))
			wantOpened(t, d, sure, sure)
		}
	}
}

// 6.6: a second stop while the journal is opened behind the first one.
func TestStopsWhileOpening(t *testing.T) {
	deeds := someDeeds()[:5]
	for n := range countSteps(t, deeds) + 1 {
		for again := range fillSteps + addSteps + 1 {
			for loss := range 15 {
				d := volume(t)
				d.Arm(n)
				sure, perhaps := run(t, d, deeds, nil)
				must(t, d.Restart(loss))
				d.Arm(again)
				_, e := wal.Open(d, file)
				if e == api.OK {
					d.Arm(-1)
					sure = wantOpened(t, d, sure, perhaps)
					perhaps = sure
				}
				must(t, d.Restart(loss*7+again))
				wantOpened(t, d, sure, perhaps)
			}
		}
	}
}

// 6.6: a stop at an Add leaves the record or not, both do come about; at a Reset all or none.
func TestBothComeAbout(t *testing.T) {
	for _, c := range []struct {
		what  string
		last  deed
		stops []int
		both  bool
	}{
		{"Add ahead of Append", deed{record: "two"}, []int{0}, false},
		{"Add ahead of Sync", deed{record: "two"}, []int{1}, true},
		{"Reset ahead of Rename", deed{reset: true}, []int{0, 1, 2}, false},
	} {
		for _, n := range c.stops {
			seen := map[int]bool{}
			for loss := range 100 {
				d := volume(t)
				l := open(t, d, file)
				add(t, l, "one", "")
				d.Arm(n)
				want(t, c.what, c.last.on(l), api.ErrDown)
				must(t, d.Restart(loss))
				seen[len(wantOpened(t, d, []string{"one", ""}, []string{"one", "", "two"}))] = true
			}
			if !seen[2] || seen[3] != c.both {
				t.Errorf("%s, armed by %d: numbers of records %v", c.what, n, seen)
			}
		}
	}
}

// 6.6: each bit of a record and of its sum that turns is damage; the records ahead of it are told, those behind it are not.
func TestRottenBits(t *testing.T) {
	records := []string{"one", "", "\x00\xff\n", strings.Repeat("long ", 30), "", "last"}
	for i, record := range records {
		ahead := len(frames(records[:i]...))
		lengthBytes := len(frame.Pack(record)) - len(record) - 4
		for bit := 8 * (ahead + lengthBytes); bit < 8*(ahead+len(frame.Pack(record))); bit++ {
			d := volume(t)
			add(t, open(t, d, file), records...)
			must(t, d.Rot(file, bit))
			l := open(t, d, file)
			wantRecords(t, l, records[:i]...)
			wantDamaged(t, l, true)
			wantFile(t, d, file, frames(records[:i]...))
			add(t, l, "more")
			l = open(t, d, file)
			wantRecords(t, l, append(slices.Clone(records[:i]), "more")...)
			wantDamaged(t, l, false)
		}
	}
}

func someDeed(source *rand.Rand) deed {
	if source.Intn(6) == 0 {
		return deed{reset: true}
	}
	return deed{record: strings.Repeat(string(rune('a'+source.Intn(26))), source.Intn(8)*source.Intn(30))}
}

// 6.2 to 6.6: scripts of deeds with many stops, each opening behind one held against what was acknowledged.
func TestScripts(t *testing.T) {
	for seed := range 200 {
		source := rand.New(rand.NewSource(int64(seed)))
		d := volume(t)
		var sure, perhaps []string
		for range 30 {
			deeds := make([]deed, source.Intn(8))
			for i := range deeds {
				deeds[i] = someDeed(source)
			}
			d.Arm(source.Intn(20))
			sure, perhaps = run(t, d, deeds, sure)
			must(t, d.Restart(int(source.Uint64())))
			sure = wantOpened(t, d, sure, perhaps)
		}
	}
}
