package table_test

import (
	"maps"
	"slices"
	"strconv"
	"strings"
	"testing"

	"tether/api"
	"tether/disk"
	"tether/frame"
	"tether/table"
)

const (
	dir  = "sys"
	base = "sys/base"
	log  = "sys/log"
)

// fillSteps are Write, Sync and Rename; addSteps are Append and Sync; packSteps fill the base and the journal.
const (
	fillSteps = 3
	addSteps  = 2
	packSteps = 2 * fillSteps
	openSteps = 1 + fillSteps
)

type pairs map[string]string

func must(t *testing.T, errors ...api.Errno) {
	t.Helper()
	for i, e := range errors {
		if e != api.OK {
			t.Fatalf("call %d = %d", i, e)
		}
	}
}

func want(t *testing.T, what string, e, wanted api.Errno) {
	t.Helper()
	if e != wanted {
		t.Errorf("%s = %d, want %d", what, e, wanted)
	}
}

func open(t *testing.T, d *disk.Disk) *table.Table {
	t.Helper()
	x, e := table.Open(d, dir)
	if e != api.OK || x == nil {
		t.Fatalf("Open = %v, %d", x, e)
	}
	return x
}

func wantRefused(t *testing.T, d *disk.Disk, p string, wanted api.Errno) {
	t.Helper()
	x, e := table.Open(d, p)
	if x != nil || e != wanted {
		t.Errorf("Open(%q) = %v, %d; want no table and %d", p, x, e, wanted)
	}
}

// asked is what a table and a batch have in common.
type asked interface {
	Get(key string) (string, bool)
	Keys(prefix string) []string
}

// wantHeld holds the keys and values of a table or a batch against these, for all prefixes that they have.
func wantHeld(t *testing.T, what string, x asked, held pairs) {
	t.Helper()
	wantKeys(t, what, x, held, "")
	for key, v := range held {
		if got, ok := x.Get(key); got != v || !ok {
			t.Fatalf("%s: Get(%q) = %q, %v; want %q", what, key, got, ok, v)
		}
		for n := range len(key) {
			wantKeys(t, what, x, held, key[:n+1])
		}
		wantKeys(t, what, x, held, key+"\x00")
		wantLacks(t, what, x, held, key+"\x00")
	}
	for _, key := range []string{"", "a", "no", "\xff"} {
		wantLacks(t, what, x, held, key)
	}
}

func wantKeys(t *testing.T, what string, x asked, held pairs, prefix string) {
	t.Helper()
	var keys []string
	for _, key := range slices.Sorted(maps.Keys(held)) {
		if strings.HasPrefix(key, prefix) {
			keys = append(keys, key)
		}
	}
	if got := x.Keys(prefix); !slices.Equal(got, keys) {
		t.Fatalf("%s: Keys(%q) = %q, want %q", what, prefix, got, keys)
	}
}

func wantLacks(t *testing.T, what string, x asked, held pairs, key string) {
	t.Helper()
	if _, has := held[key]; has {
		return
	}
	if v, ok := x.Get(key); v != "" || ok {
		t.Fatalf("%s: Get(%q) = %q, %v; want none", what, key, v, ok)
	}
}

func wantFile(t *testing.T, d *disk.Disk, p, data string) {
	t.Helper()
	if got, e := d.Read(p); got != data || e != api.OK {
		t.Errorf("Read(%q) = %q, %d; want %q", p, got, e, data)
	}
}

func wantList(t *testing.T, d *disk.Disk, p string, list ...string) {
	t.Helper()
	if got := d.List(p); !slices.Equal(got, list) {
		t.Errorf("List(%q) = %q, want %q", p, got, list)
	}
}

func wantSteps(t *testing.T, d *disk.Disk, from, steps int) {
	t.Helper()
	if got := d.Steps() - from; got != steps {
		t.Errorf("%d steps, want %d", got, steps)
	}
}

// holding is a disk with the table's folder and these files, by path, synced.
func holding(t *testing.T, files pairs) *disk.Disk {
	t.Helper()
	d := disk.New()
	must(t, d.Mkdir(dir))
	for p, data := range files {
		must(t, d.Write(p, data), d.Sync(p))
	}
	return d
}

// framed are the bytes of a file with these records.
func framed(records ...string) string {
	var out strings.Builder
	for _, record := range records {
		out.WriteString(frame.Pack(record))
	}
	return out.String()
}

// put commits a batch that puts one key.
func put(t *testing.T, x *table.Table, key, v string) {
	t.Helper()
	b := x.Begin()
	b.Put(key, v)
	must(t, b.Commit())
}

// stop makes the machine stop at once.
func stop(t *testing.T, d *disk.Disk) {
	t.Helper()
	d.Arm(0)
	want(t, "Mkdir at the stop", d.Mkdir(dir), api.ErrDown)
}

// 7.2 to 7.5: nil disks, tables and batches.
func TestNil(t *testing.T) {
	for _, p := range []string{"", dir, "V", strings.Repeat("/", 20)} {
		wantRefused(t, nil, p, api.ErrInput)
	}
	var x *table.Table
	wantHeld(t, "nil table", x, nil)
	want(t, "Pack", x.Pack(), api.ErrInput)
	var b *table.Batch
	b.Put("a", "b")
	b.Drop("a")
	wantHeld(t, "nil batch", b, nil)
	want(t, "Commit", b.Commit(), api.ErrInput)
}

// 7.5: a batch of a nil table: ErrInput, with changes or without.
func TestBatchOfNilTable(t *testing.T) {
	var x *table.Table
	b := x.Begin()
	want(t, "Commit of nothing", b.Commit(), api.ErrInput)
	wantHeld(t, "batch without changes", b, nil)
	b.Put("b", "1")
	b.Put("c", "2")
	b.Drop("b")
	want(t, "Commit", b.Commit(), api.ErrInput)
	want(t, "Commit again", b.Commit(), api.ErrInput)
	wantHeld(t, "nil table", x, nil)
	wantHeld(t, "batch behind its changes", b, pairs{"c": "2"})
}

// 7.2: where nothing is, the folder and an empty journal are made, and no base.
func TestOpenMakes(t *testing.T) {
	d := disk.New()
	x := open(t, d)
	wantSteps(t, d, 0, openSteps)
	wantHeld(t, "made", x, nil)
	wantList(t, d, "", dir)
	wantList(t, d, dir, log)
	wantFile(t, d, log, "")
	from := d.Steps()
	wantHeld(t, "opened again", open(t, d), nil)
	wantSteps(t, d, from, 0)
	must(t, d.Mkdir("v"))
	y, e := table.Open(d, "v/a_1")
	must(t, e)
	put(t, y, "k", "1")
	wantList(t, d, "v/a_1", "v/a_1/log")
	wantHeld(t, "the other one", x, nil)
}

// 7.2: each stop while a table is made.
func TestOpenMakesByStops(t *testing.T) {
	for n := range openSteps {
		d := disk.New()
		d.Arm(n)
		wantRefused(t, d, dir, api.ErrDown)
		wantSteps(t, d, 0, n)
		wantRefused(t, d, dir, api.ErrDown)
		must(t, d.Restart(n))
		wantHeld(t, "behind the stop", open(t, d), nil)
		wantList(t, d, dir, log)
	}
}

// 7.2: Mkdir's error, and that of the journal, of folders in which none can be made.
func TestOpenRefusedFolders(t *testing.T) {
	for p, e := range map[string]api.Errno{
		"": api.ErrPath, "/": api.ErrPath, "V": api.ErrPath, "v/": api.ErrPath, "v//a": api.ErrPath, "v/a.b": api.ErrPath, "v/\xff": api.ErrPath,
		strings.Repeat("a", api.MaxName+1): api.ErrPath, "v/a/b/c/d/e/f": api.ErrPath, strings.Repeat("/", 30): api.ErrPath,
		"w/a": api.ErrNone, "v/x/a": api.ErrNone, "v/file/a": api.ErrNone, "v/file": api.ErrNone, "v/x/c/d/e/f": api.ErrNone,
	} {
		d := disk.New()
		must(t, d.Mkdir("v"), d.Write("v/file", "one"))
		from := d.Steps()
		wantRefused(t, d, p, e)
		wantSteps(t, d, from, 0)
		wantList(t, d, "", "v")
		wantList(t, d, "v", "v/file")
		must(t, d.Mkdir("v"))
		stop(t, d)
		wantRefused(t, d, p, api.ErrDown)
	}
}

// 7.2: a folder may stand as deep as its files have paths.
func TestOpenDeep(t *testing.T) {
	d := disk.New()
	p := "v"
	must(t, d.Mkdir(p))
	for range api.MaxDeep - 1 {
		p += "/d"
		x, e := table.Open(d, p)
		must(t, e)
		put(t, x, "k", p)
		must(t, x.Pack())
		x, e = table.Open(d, p)
		must(t, e)
		wantHeld(t, p, x, pairs{"k": p})
	}
	wantRefused(t, d, p+"/d", api.ErrPath)
	wantRefused(t, d, p+"/d", api.ErrPath)
}

// 7.2: the base's changes, and behind them the records', in their order.
func TestOpenTakes(t *testing.T) {
	set := func(key, v string) api.Op { return api.Op{Key: key, Value: v} }
	gone := func(key string) api.Op { return api.Op{Key: key, Gone: true} }
	record := func(ops ...api.Op) string { return table.Record(ops) }
	for _, c := range []struct {
		what string
		base []api.Op
		log  []string
		held pairs
	}{
		{"nothing", nil, nil, nil},
		{"a base", []api.Op{set("b", "2"), set("a", "1"), set("", "")}, nil, pairs{"a": "1", "b": "2", "": ""}},
		{"a base that takes back", []api.Op{set("a", "1"), set("a", "2"), gone("b"), set("b", "3"), set("c", "4"), gone("c")}, nil, pairs{"a": "2", "b": "3"}},
		{"records", nil, []string{record(set("a", "1"), set("b", "2")), record(), record(gone("a"), set("c", "3"))}, pairs{"b": "2", "c": "3"}},
		{"records behind a base", []api.Op{set("a", "1"), set("b", "2"), set("c", "3")}, []string{record(set("a", "9"), gone("b")), record(set("d", "4"))}, pairs{"a": "9", "c": "3", "d": "4"}},
		{"a key that comes again", []api.Op{set("a", "1")}, []string{record(gone("a")), record(set("a", "2"))}, pairs{"a": "2"}},
		{"a key that goes again", []api.Op{set("a", "1")}, []string{record(set("a", "2")), record(gone("a")), record(gone("a"))}, nil},
		{"more records than a journal has", nil, slices.Repeat([]string{record(set("a", "1"))}, 3*api.MaxWal), pairs{"a": "1"}},
	} {
		files := pairs{base: framed(record(c.base...)), log: framed(c.log...)}
		if c.base == nil {
			delete(files, base)
		}
		d := holding(t, files)
		from := d.Steps()
		wantHeld(t, c.what, open(t, d), c.held)
		wantSteps(t, d, from, 0)
		wantFile(t, d, log, files[log])
	}
}

// 7.2: what is refused of the base and of the journal; nothing is changed by it.
func TestOpenRefusals(t *testing.T) {
	whole := table.Record([]api.Op{{Key: "a", Value: "b"}})
	good := framed(whole)
	for _, c := range []struct {
		what  string
		files pairs
		e     api.Errno
	}{
		{"an empty base", pairs{base: ""}, api.ErrShort},
		{"a base that is cut", pairs{base: good[:len(good)-1]}, api.ErrShort},
		{"a base of a long length", pairs{base: "\x80\x00" + good}, api.ErrForm},
		{"a base of another sum", pairs{base: good[:len(good)-1] + "\x00"}, api.ErrSum},
		{"a base and a byte", pairs{base: good + "\x00"}, api.ErrTail},
		{"two bases", pairs{base: good + good}, api.ErrTail},
		{"a base of no changes that end", pairs{base: framed("\x01\x01\x01a")}, api.ErrShort},
		{"a base of no text", pairs{base: framed("")}, api.ErrShort},
		{"a base of a wrong change", pairs{base: framed("\x01\x02\x01a")}, api.ErrForm},
		{"a base of a tail", pairs{base: framed(whole + "x")}, api.ErrTail},
		{"a base of a tail, and a tail", pairs{base: framed(whole+"x") + "\x00"}, api.ErrTail},
		{"a base of a wrong change, and a tail", pairs{base: framed("\x01\x02\x01a") + "\x00"}, api.ErrTail},
		{"a base of another sum, and a tail", pairs{base: good[:len(good)-1] + "\x00\x00"}, api.ErrSum},
		{"a record that is cut", pairs{log: framed(whole, whole[:3], whole)}, api.ErrShort},
		{"a record of no text", pairs{log: framed("", "\x00x")}, api.ErrShort},
		{"a record of a wrong change", pairs{base: good, log: framed("\x01\x02\x01a")}, api.ErrForm},
		{"a record of a tail", pairs{log: framed(whole, whole+"x", "")}, api.ErrTail},
		{"a base ahead of a record", pairs{base: framed("\x00x"), log: framed("")}, api.ErrTail},
	} {
		d := holding(t, c.files)
		from := d.Steps()
		for range 2 {
			wantRefused(t, d, dir, c.e)
		}
		wantSteps(t, d, from, 0)
		if got := d.List(dir); len(got) != len(c.files) {
			t.Errorf("%s: %q", c.what, got)
		}
		for p, data := range c.files {
			wantFile(t, d, p, data)
		}
	}
}

// 7.2: folders where the files are to be, and a journal that can't be made or mended.
func TestOpenRefusedByTheDisk(t *testing.T) {
	d := disk.New()
	must(t, d.Mkdir(dir), d.Mkdir(base))
	wantRefused(t, d, dir, api.ErrDir)
	wantList(t, d, dir, base)
	must(t, d.Mkdir(log), d.Remove(base), d.Write(base, ""))
	wantRefused(t, d, dir, api.ErrShort)
	must(t, d.Write(base, framed("\x00")))
	wantRefused(t, d, dir, api.ErrDir)
	must(t, d.Remove(log), d.Mkdir(log+"_t"))
	wantRefused(t, d, dir, api.ErrDir)
	must(t, d.Remove(log+"_t"))
	wantHeld(t, "mended", open(t, d), nil)

	torn := framed("", "\x00") + "\x05"
	d = holding(t, pairs{log: torn})
	must(t, d.Limit(dir, 0))
	wantRefused(t, d, dir, api.ErrFull)
	wantFile(t, d, log, torn)
	must(t, d.Limit(dir, 100))
	wantRefused(t, d, dir, api.ErrShort)
	wantFile(t, d, log, framed("", "\x00"))
}

// 7.2: a stopped machine, whatever stands there.
func TestOpenOfAStoppedMachine(t *testing.T) {
	for _, files := range []pairs{{}, {log: framed("\x00")}, {base: framed("\x00")}, {base: "x"}, {base: framed("\x00"), log: "x"}} {
		d := holding(t, files)
		stop(t, d)
		wantRefused(t, d, dir, api.ErrDown)
		wantRefused(t, d, "w", api.ErrDown)
		wantRefused(t, d, "", api.ErrDown)
	}
}

// 7.2: a journal with a torn end, or with damage, is opened by the records ahead of that.
func TestOpenOfABrokenJournal(t *testing.T) {
	one := table.Record([]api.Op{{Key: "a", Value: "1"}})
	two := table.Record([]api.Op{{Key: "a", Value: "2"}})
	for _, end := range []string{"\x05", framed(two)[:9], "\x00abcd", framed(two)[:10] + "\x00" + framed(two)} {
		d := holding(t, pairs{log: framed(one) + end})
		x := open(t, d)
		wantHeld(t, "broken", x, pairs{"a": "1"})
		wantFile(t, d, log, framed(one))
		put(t, x, "b", "3")
		wantHeld(t, "opened again", open(t, d), pairs{"a": "1", "b": "3"})
	}
}

// 7.3, 7.4: keys of all kinds, found by each beginning of theirs, rising byte by byte.
func TestKeys(t *testing.T) {
	held := pairs{"": "none", "a": "", "a/": "1", "a/1": "2", "a/10": "3", "a/2": "4", "a0": "5", "ab": "6", "b": "7", "B": "8", "\x00": "9", "\xff": "10", "\xff\xff": "11", "\xc3\xa4": "12", "\n": "13"}
	d := disk.New()
	x := open(t, d)
	b := x.Begin()
	for key, v := range held {
		b.Put(key, v)
	}
	wantHeld(t, "batch", b, held)
	wantHeld(t, "table ahead of Commit", x, nil)
	must(t, b.Commit())
	wantHeld(t, "table", x, held)
	wantHeld(t, "new batch", x.Begin(), held)
	wantHeld(t, "opened again", open(t, d), held)
	must(t, x.Pack())
	wantHeld(t, "packed", x, held)
	wantHeld(t, "opened behind Pack", open(t, d), held)
	if got := x.Keys("a/"); !slices.Equal(got, []string{"a/", "a/1", "a/10", "a/2"}) {
		t.Errorf("Keys(a/) = %q", got)
	}
}

// 7.3: Pack writes the keys, rising, and empties the journal.
func TestPack(t *testing.T) {
	d := disk.New()
	x := open(t, d)
	from := d.Steps()
	must(t, x.Pack())
	wantSteps(t, d, from, packSteps)
	wantFile(t, d, base, framed("\x00"))
	b := x.Begin()
	for _, key := range []string{"c", "a", "d", "b", ""} {
		b.Put(key, key+"1")
	}
	b.Drop("e")
	must(t, b.Commit())
	b.Drop("d")
	b.Put("c", "")
	must(t, b.Commit())
	from = d.Steps()
	must(t, x.Pack())
	wantSteps(t, d, from, packSteps)
	wantFile(t, d, base, framed("\x04\x01\x00\x011\x01\x01a\x02a1\x01\x01b\x02b1\x01\x01c\x00"))
	wantFile(t, d, log, "")
	wantList(t, d, dir, base, log)
	held := pairs{"": "1", "a": "a1", "b": "b1", "c": ""}
	wantHeld(t, "packed", x, held)
	put(t, x, "c", "2")
	wantFile(t, d, log, framed("\x01\x01\x01c\x012"))
	held["c"] = "2"
	wantHeld(t, "opened again", open(t, d), held)
	must(t, x.Pack(), x.Pack())
	wantHeld(t, "packed twice", open(t, d), held)
}

// 7.3: Pack's first error; what is opened again has all batches.
func TestPackRefusals(t *testing.T) {
	for _, c := range []struct {
		what   string
		before func(d *disk.Disk) api.Errno
		after  func(d *disk.Disk) api.Errno
		e      api.Errno
		filled bool // is the base there?
	}{
		{"no room", func(d *disk.Disk) api.Errno { return d.Limit(dir, 0) }, nil, api.ErrFull, false},
		{"a folder beside the base", func(d *disk.Disk) api.Errno { return d.Mkdir(base + "_t") }, nil, api.ErrDir, false},
		{"a folder beside the journal", func(d *disk.Disk) api.Errno { return d.Mkdir(log + "_t") }, nil, api.ErrDir, true},
		{"a folder for the base", func(d *disk.Disk) api.Errno { return d.Mkdir(base) }, func(d *disk.Disk) api.Errno { return d.Remove(base) }, api.ErrDir, false},
	} {
		d := disk.New()
		x := open(t, d)
		put(t, x, "a", "1")
		must(t, c.before(d))
		want(t, c.what, x.Pack(), c.e)
		if c.after != nil {
			must(t, c.after(d))
		}
		if (d.Kind(base) == api.File) != c.filled {
			t.Errorf("%s: the base is of kind %d", c.what, d.Kind(base))
		}
		wantFile(t, d, log, framed("\x01\x01\x01a\x011"))
		wantHeld(t, c.what, open(t, d), pairs{"a": "1"})
	}
}

// 7.3: a table works on the disk itself, from opening on.
func TestKeepsTheDisk(t *testing.T) {
	d := disk.New()
	x := open(t, d)
	put(t, x, "a", "1")
	stop(t, d)
	want(t, "Pack", x.Pack(), api.ErrDown)
	must(t, d.Restart(1))
	x = open(t, d)
	must(t, d.Remove(log))
	b := x.Begin()
	b.Put("b", "2")
	want(t, "Commit to no journal", b.Commit(), api.ErrNone)
	wantHeld(t, "no journal", open(t, d), nil)
}

// 7.4: a change takes the place of an earlier one of its key, and the batch answers as the table would.
func TestBatch(t *testing.T) {
	d := disk.New()
	x := open(t, d)
	put(t, x, "b", "0")
	put(t, x, "c", "0")
	b := x.Begin()
	wantHeld(t, "at first", b, pairs{"b": "0", "c": "0"})
	b.Put("a", "1")
	b.Put("b", "")
	b.Drop("c")
	b.Drop("d")
	wantHeld(t, "changed", b, pairs{"a": "1", "b": ""})
	wantHeld(t, "table", x, pairs{"b": "0", "c": "0"})
	b.Drop("a")
	b.Put("c", "2")
	b.Put("d", "3")
	wantHeld(t, "changed again", b, pairs{"b": "", "c": "2", "d": "3"})
	b.Put("a", "4")
	b.Drop("b")
	b.Drop("d")
	wantHeld(t, "and again", b, pairs{"a": "4", "c": "2"})
	from := d.Steps()
	must(t, b.Commit())
	wantSteps(t, d, from, addSteps)
	wantHeld(t, "committed", x, pairs{"a": "4", "c": "2"})
	wantHeld(t, "batch behind Commit", b, pairs{"a": "4", "c": "2"})
	wantHeld(t, "opened again", open(t, d), pairs{"a": "4", "c": "2"})
}

// 7.4: a batch is asked of the table as it is then, what other batches have done included.
func TestBatchesOfOneTable(t *testing.T) {
	d := disk.New()
	x := open(t, d)
	a, b := x.Begin(), x.Begin()
	a.Put("a", "1")
	a.Put("both", "a")
	b.Put("b", "2")
	b.Put("both", "b")
	b.Drop("gone")
	wantHeld(t, "apart", b, pairs{"b": "2", "both": "b"})
	a.Put("gone", "a")
	must(t, a.Commit())
	wantHeld(t, "behind the other's", b, pairs{"a": "1", "b": "2", "both": "b"})
	a.Drop("a")
	must(t, a.Commit())
	wantHeld(t, "and again", b, pairs{"b": "2", "both": "b"})
	must(t, b.Commit())
	wantHeld(t, "table", x, pairs{"b": "2", "both": "b"})
	wantHeld(t, "the first one", a, pairs{"b": "2", "both": "b"})
	wantHeld(t, "opened again", open(t, d), pairs{"b": "2", "both": "b"})
}

// 7.5: the journal gets one record of the changes, in the order in which their keys first came.
func TestCommitRecord(t *testing.T) {
	d := disk.New()
	x := open(t, d)
	b := x.Begin()
	b.Put("z", "1")
	b.Drop("m")
	b.Put("a", "2")
	b.Drop("z")
	b.Put("m", "3")
	b.Put("z", "4")
	b.Drop("a")
	from := d.Steps()
	must(t, b.Commit())
	wantSteps(t, d, from, addSteps)
	first := table.Record([]api.Op{{Key: "z", Value: "4"}, {Key: "m", Value: "3"}, {Key: "a", Gone: true}})
	wantFile(t, d, log, framed(first))
	b.Put("a", "5")
	b.Put("z", "4")
	must(t, b.Commit())
	second := table.Record([]api.Op{{Key: "a", Value: "5"}, {Key: "z", Value: "4"}})
	wantFile(t, d, log, framed(first, second))
	b.Drop("none")
	must(t, b.Commit())
	wantFile(t, d, log, framed(first, second, "\x01\x00\x04none"))
	wantHeld(t, "opened again", open(t, d), pairs{"a": "5", "m": "3", "z": "4"})
}

// 7.5: Commit of no changes is OK and does nothing, whatever the machine does.
func TestCommitOfNothing(t *testing.T) {
	d := disk.New()
	x := open(t, d)
	from := d.Steps()
	b := x.Begin()
	must(t, b.Commit(), b.Commit())
	b.Put("a", "1")
	must(t, b.Commit(), b.Commit(), x.Begin().Commit())
	wantSteps(t, d, from, addSteps)
	stop(t, d)
	must(t, b.Commit(), x.Begin().Commit())
	b.Drop("a")
	want(t, "Commit", b.Commit(), api.ErrDown)
}

// 7.5: sixteen records make a new base; so they do when they were counted ahead of opening.
func TestCommitPacks(t *testing.T) {
	d := disk.New()
	x := open(t, d)
	held := pairs{}
	for i := range 5 * api.MaxWal {
		from := d.Steps()
		key := strconv.Itoa(i % 7)
		held[key] = strconv.Itoa(i)
		put(t, x, key, held[key])
		if i%api.MaxWal < api.MaxWal-1 {
			wantSteps(t, d, from, addSteps)
		} else {
			wantSteps(t, d, from, addSteps+packSteps)
			wantFile(t, d, log, "")
		}
		if i < api.MaxWal-1 && d.Kind(base) != api.None {
			t.Errorf("a base behind %d records", i+1)
		}
		wantHeld(t, "committed", x, held)
		if i%5 == 3 {
			x = open(t, d)
			wantHeld(t, "opened again", x, held)
		}
	}
}

// 7.5: a journal of more records than sixteen is packed by the next Commit, not by opening.
func TestCommitPacksMore(t *testing.T) {
	record := table.Record([]api.Op{{Key: "a", Value: "1"}})
	for _, records := range []int{api.MaxWal - 2, api.MaxWal - 1, api.MaxWal, api.MaxWal + 9} {
		d := holding(t, pairs{log: framed(slices.Repeat([]string{record}, records)...)})
		x := open(t, d)
		must(t, x.Begin().Commit())
		if d.Kind(base) != api.None {
			t.Errorf("%d records: a base ahead of Commit", records)
		}
		put(t, x, "b", "2")
		if packed := d.Kind(base) == api.File; packed != (records+1 >= api.MaxWal) {
			t.Errorf("%d records and one: packed %v", records, packed)
		}
		wantHeld(t, "opened again", open(t, d), pairs{"a": "1", "b": "2"})
	}
}

// 7.5: the answer is Add's error, or that of Pack, behind which the batch is done.
func TestCommitRefusals(t *testing.T) {
	d := disk.New()
	x := open(t, d)
	put(t, x, "a", "1")
	must(t, d.Limit(dir, d.Used(dir)+1))
	b := x.Begin()
	b.Put("b", "2")
	want(t, "Commit without room", b.Commit(), api.ErrFull)
	x = open(t, d)
	wantHeld(t, "no room", x, pairs{"a": "1"})
	must(t, d.Limit(dir, 1000), d.Mkdir(base+"_t"))
	for i := range api.MaxWal - 2 {
		put(t, x, "a", strconv.Itoa(i))
	}
	b = x.Begin()
	b.Put("c", "3")
	want(t, "Commit with no Pack", b.Commit(), api.ErrDir)
	wantHeld(t, "opened again", open(t, d), pairs{"a": strconv.Itoa(api.MaxWal - 3), "c": "3"})
	must(t, d.Remove(base+"_t"))
	x = open(t, d)
	b = x.Begin()
	b.Drop("a")
	must(t, b.Commit())
	wantFile(t, d, base, framed("\x01\x01\x01c\x013"))
	wantFile(t, d, log, "")
}

// Rule 4: the lists of Keys are new memory each time, spare room included.
func TestKeysAreNew(t *testing.T) {
	x := open(t, disk.New())
	b := x.Begin()
	held := pairs{}
	for i := range 20 {
		for _, list := range [][]string{x.Keys(""), b.Keys(""), x.Keys("k"), b.Keys("k1")} {
			spare := list[:cap(list)]
			for j := range spare {
				spare[j] = "spoilt"
			}
		}
		wantHeld(t, "batch", b, held)
		key := "k" + strconv.Itoa(i)
		held[key] = key
		b.Put(key, key)
		if i%3 == 2 {
			must(t, b.Commit())
			wantHeld(t, "table", x, held)
		}
	}
}

// The chapter's example of sixteen commits (that of Record's bytes stands in TestRecordBytes).
func TestSixteenCommits(t *testing.T) {
	d := disk.New()
	x := open(t, d)
	for i := range api.MaxWal {
		if d.Kind(base) != api.None {
			t.Errorf("a base ahead of commit %d", i+1)
		}
		put(t, x, "n", strconv.Itoa(i))
	}
	wantFile(t, d, base, framed("\x01\x01\x01n\x0215"))
	wantFile(t, d, log, "")
}
