package wal_test

import (
	"math/rand"
	"slices"
	"strings"
	"testing"

	"tether/api"
	"tether/disk"
	"tether/frame"
	"tether/wal"
)

const (
	file   = "v/log"
	beside = "v/log_t"
)

// fillSteps are Write, Sync and Rename; addSteps are Append and Sync.
const (
	fillSteps = 3
	addSteps  = 2
)

// volume is a disk with the volume v.
func volume(t *testing.T) *disk.Disk {
	t.Helper()
	d := disk.New()
	must(t, d.Mkdir("v"))
	return d
}

// holding is a disk with the volume v and a file, synced.
func holding(t *testing.T, p, data string) *disk.Disk {
	t.Helper()
	d := volume(t)
	must(t, d.Write(p, data), d.Sync(p))
	return d
}

func must(t *testing.T, errors ...api.Errno) {
	t.Helper()
	for i, e := range errors {
		if e != api.OK {
			t.Fatalf("call %d = %d", i, e)
		}
	}
}

func want(t *testing.T, what string, e, wanted api.Errno) {
	t.Helper()
	if e != wanted {
		t.Errorf("%s = %d, want %d", what, e, wanted)
	}
}

func open(t *testing.T, d *disk.Disk, p string) *wal.Log {
	t.Helper()
	l, e := wal.Open(d, p)
	if e != api.OK || l == nil {
		t.Fatalf("Open(%q) = %v, %d", p, l, e)
	}
	return l
}

func wantRefused(t *testing.T, d *disk.Disk, p string, wanted api.Errno) {
	t.Helper()
	l, e := wal.Open(d, p)
	if l != nil || e != wanted {
		t.Errorf("Open(%q) = %v, %d; want no journal and %d", p, l, e, wanted)
	}
}

func add(t *testing.T, l *wal.Log, records ...string) {
	t.Helper()
	for _, record := range records {
		must(t, l.Add(record))
	}
}

func wantRecords(t *testing.T, l *wal.Log, records ...string) {
	t.Helper()
	if got := l.Records(); !slices.Equal(got, records) {
		t.Errorf("Records() = %q, want %q", got, records)
	}
}

func wantDamaged(t *testing.T, l *wal.Log, damaged bool) {
	t.Helper()
	if l.Damaged() != damaged {
		t.Errorf("Damaged() = %v, want %v", l.Damaged(), damaged)
	}
}

func wantFile(t *testing.T, d *disk.Disk, p, data string) {
	t.Helper()
	if got, e := d.Read(p); got != data || e != api.OK {
		t.Errorf("Read(%q) = %q, %d; want %q", p, got, e, data)
	}
}

func wantList(t *testing.T, d *disk.Disk, p string, list ...string) {
	t.Helper()
	if got := d.List(p); !slices.Equal(got, list) {
		t.Errorf("List(%q) = %q, want %q", p, got, list)
	}
}

func wantSteps(t *testing.T, d *disk.Disk, from, steps int) {
	t.Helper()
	if got := d.Steps() - from; got != steps {
		t.Errorf("%d steps, want %d", got, steps)
	}
}

// frames are the bytes of a file with these records.
func frames(records ...string) string {
	var out strings.Builder
	for _, record := range records {
		out.WriteString(frame.Pack(record))
	}
	return out.String()
}

// someRecords have lengths of one byte and of more, no bytes, and bytes of all kinds.
func someRecords() []string {
	return []string{"one", "", "\x00\xff\n", strings.Repeat("long ", 60), "", frame.Pack("in a frame"), "\x80", strings.Repeat("\xff", 127), strings.Repeat("\x00", 128), "one"}
}

// 6.1
func TestNil(t *testing.T) {
	for _, p := range []string{"", "v", "v/log", "V", strings.Repeat("/", 20)} {
		wantRefused(t, nil, p, api.ErrInput)
	}
	var l *wal.Log
	wantRecords(t, l)
	wantDamaged(t, l, false)
	want(t, "Add", l.Add("x"), api.ErrInput)
	want(t, "Add", l.Add(""), api.ErrInput)
	want(t, "Reset", l.Reset(), api.ErrInput)
	wantRecords(t, l)
}

// 6.1: a journal works on the disk itself, not on one like it.
func TestKeepsTheDisk(t *testing.T) {
	d := volume(t)
	l := open(t, d, file)
	for i, record := range someRecords() {
		add(t, l, record)
		wantFile(t, d, file, frames(someRecords()[:i+1]...))
	}
	must(t, d.Remove(file), d.Write(file, "other"))
	add(t, l, "x")
	wantFile(t, d, file, "other"+frames("x"))
	other := volume(t)
	open(t, other, file)
	wantFile(t, other, file, "")
}

// filler is a call that fills the file: what was in it, and what is then.
type filler struct {
	what, old, filled string
	call              func(t *testing.T, d *disk.Disk) func() api.Errno // made ready on the disk
}

func fillers() []filler {
	opened := func(t *testing.T, d *disk.Disk) func() api.Errno {
		return func() api.Errno {
			l, e := wal.Open(d, file)
			if (l == nil) != (e != api.OK) {
				t.Errorf("Open = %v beside %d", l, e)
			}
			return e
		}
	}
	reset := func(t *testing.T, d *disk.Disk) func() api.Errno { return open(t, d, file).Reset }
	whole := frames("one", "two")
	return []filler{
		{"Open of a torn file", whole + "\x07to", whole, opened},
		{"Open of a rotten file", whole + "\x01abcde", whole, opened},
		{"Open of a file that is torn at once", "\x07to", "", opened},
		{"Reset", whole, "", reset},
		{"Reset of no records", "", "", reset},
	}
}

// 6.1: to fill is to write beside, to sync that, to rename that, in this order; a stop leaves what was done ahead of it.
func TestFillStepByStep(t *testing.T) {
	for _, f := range fillers() {
		for n := range fillSteps + 1 {
			wantStopped(t, f, n)
		}
	}
}

func wantStopped(t *testing.T, f filler, n int) {
	t.Helper()
	left := map[string]bool{}
	for loss := range 60 {
		d := holding(t, file, f.old)
		call := f.call(t, d)
		from := d.Steps()
		d.Arm(n)
		e := call()
		wantSteps(t, d, from, n)
		must(t, d.Restart(loss))
		if n == fillSteps {
			want(t, f.what, e, api.OK)
			wantFile(t, d, file, f.filled)
			wantList(t, d, "v", file)
			continue
		}
		want(t, f.what, e, api.ErrDown)
		wantFile(t, d, file, f.old)
		if n == 0 {
			wantList(t, d, "v", file)
			continue
		}
		wantList(t, d, "v", file, beside)
		data, _ := d.Read(beside)
		left[data] = true
	}
	switch {
	case n == 2 && (len(left) != 1 || !left[f.filled]):
		t.Errorf("%s: synced beside, %v is left, not %q alone", f.what, left, f.filled)
	case n == 1 && len(left) != len(f.filled)+1:
		t.Errorf("%s: %d beginnings of %q are left beside", f.what, len(left), f.filled)
	}
}

// 6.1: the file beside may be there from an earlier stop: it is written over.
func TestFillOverTheFileBeside(t *testing.T) {
	for _, f := range fillers() {
		d := holding(t, file, f.old)
		must(t, d.Write(beside, strings.Repeat("left over", 100)))
		call := f.call(t, d)
		want(t, f.what, call(), api.OK)
		wantFile(t, d, file, f.filled)
		wantList(t, d, "v", file)
	}
}

// 6.1, 6.2, 6.4: the first error of a fill ends it and is told; the file is as it was.
func TestFillRefused(t *testing.T) {
	for _, f := range fillers() {
		d := holding(t, file, f.old)
		call := f.call(t, d)
		must(t, d.Mkdir(beside))
		from := d.Steps()
		want(t, f.what+" beside a folder", call(), api.ErrDir)
		wantSteps(t, d, from, 0)
		wantFile(t, d, file, f.old)
		if f.filled == "" {
			continue
		}
		d = holding(t, file, f.old)
		call = f.call(t, d)
		room := len(f.old) + len(f.filled)
		must(t, d.Limit("v", room-1))
		want(t, f.what+" without room", call(), api.ErrFull)
		wantFile(t, d, file, f.old)
		wantList(t, d, "v", file)
		must(t, d.Limit("v", room))
		want(t, f.what+" with room", call(), api.OK)
		wantFile(t, d, file, f.filled)
	}
}

// 6.1: what is filled with nothing needs no room.
func TestFillWithNothingInAFullVolume(t *testing.T) {
	d := volume(t)
	must(t, d.Write("v/big", "1234"), d.Limit("v", 0))
	l := open(t, d, file)
	want(t, "Add", l.Add(""), api.ErrFull)
	l = open(t, d, file)
	must(t, l.Reset())
	wantRecords(t, l)
	wantList(t, d, "v", "v/big", file)
}

// 6.1, 6.2: the path with _t behind it is held to be a path too; a file that needs no filling is opened without.
func TestLongNames(t *testing.T) {
	for n := 1; n <= api.MaxName; n++ {
		p := "v/" + strings.Repeat("a", n)
		fits := n+len("_t") <= api.MaxName
		d := volume(t)
		if fits {
			l := open(t, d, p)
			add(t, l, "one")
			must(t, l.Reset())
			wantFile(t, d, p, "")
			continue
		}
		wantRefused(t, d, p, api.ErrPath)
		wantList(t, d, "v")
		must(t, d.Write(p, frames("one")))
		l := open(t, d, p)
		add(t, l, "two")
		wantRecords(t, l, "one", "two")
		wantRecords(t, open(t, d, p), "one", "two")
		want(t, "Reset", l.Reset(), api.ErrPath)
		wantFile(t, d, p, frames("one", "two"))
		must(t, d.Append(p, "\x07to"))
		wantRefused(t, d, p, api.ErrPath)
		wantFile(t, d, p, frames("one", "two")+"\x07to")
	}
}

// 6.2: where nothing stands, the file is made, empty and kept.
func TestOpenMakes(t *testing.T) {
	for loss := range 20 {
		d := volume(t)
		from := d.Steps()
		l := open(t, d, file)
		wantSteps(t, d, from, fillSteps)
		wantRecords(t, l)
		wantDamaged(t, l, false)
		must(t, d.Restart(loss))
		wantFile(t, d, file, "")
		wantList(t, d, "v", file)
	}
	for n := range fillSteps {
		d := volume(t)
		from := d.Steps()
		d.Arm(n)
		wantRefused(t, d, file, api.ErrDown)
		wantSteps(t, d, from, n)
		must(t, d.Restart(n))
		if d.Kind(file) != api.None {
			t.Errorf("armed by %d there is a file", n)
		}
		wantRecords(t, open(t, d, file))
		wantList(t, d, "v", file)
	}
}

// 6.2: a journal may stand as deep as a file may.
func TestOpenDeep(t *testing.T) {
	d := volume(t)
	p := "v"
	for range api.MaxDeep - 1 {
		p += "/d"
		must(t, d.Mkdir(p))
	}
	l := open(t, d, p+"/log")
	add(t, l, "one")
	wantRecords(t, open(t, d, p+"/log"), "one")
	must(t, d.Mkdir(p+"/d"))
	wantRefused(t, d, p+"/d/log", api.ErrPath)
	wantRefused(t, d, p+"/d", api.ErrDir)
}

// 6.2: paths at which nothing stands and no file can be made, and folders.
func TestOpenRefusals(t *testing.T) {
	for p, e := range map[string]api.Errno{
		"": api.ErrPath, "/": api.ErrPath, "x": api.ErrPath, "/v": api.ErrPath, "v//a": api.ErrPath, "V/a": api.ErrPath, "v/A": api.ErrPath, "v/a.b": api.ErrPath, "v/a\n": api.ErrPath, "v/\xff": api.ErrPath,
		"v/" + strings.Repeat("a", api.MaxName+1): api.ErrPath, "v/a/b/c/d/e/f": api.ErrPath, strings.Repeat("/", 30): api.ErrPath,
		"w/log": api.ErrNone, "v/x/log": api.ErrNone, "v/a/log": api.ErrNone, "v": api.ErrDir, "v/d": api.ErrDir,
	} {
		d := holding(t, "v/a", "one")
		must(t, d.Mkdir("v/d"))
		from := d.Steps()
		wantRefused(t, d, p, e)
		wantSteps(t, d, from, 0)
		wantList(t, d, "", "v")
		wantList(t, d, "v", "v/a", "v/d")
		must(t, d.Mkdir("v"))
		d.Arm(0)
		want(t, "Mkdir", d.Mkdir("v"), api.ErrDown)
		wantRefused(t, d, p, api.ErrDown)
	}
}

// 6.1, 6.2: behind a stroke at its end the file beside has a path and the file itself has none: Rename is what is refused.
func TestOpenBehindAStroke(t *testing.T) {
	d := volume(t)
	from := d.Steps()
	wantRefused(t, d, "v/", api.ErrPath)
	wantSteps(t, d, from, 2)
	wantFile(t, d, "v/_t", "")
	wantList(t, d, "v", "v/_t")
}

// 6.2: a machine that has stopped, whatever stands at the path.
func TestOpenOfAStoppedMachine(t *testing.T) {
	d := holding(t, file, frames("one"))
	must(t, d.Write("v/torn", "\x07to"), d.Mkdir("v/d"))
	d.Arm(0)
	want(t, "Mkdir", d.Mkdir("v"), api.ErrDown)
	for _, p := range []string{file, "v/torn", "v/d", "v", "v/new", "w/log", "", "V"} {
		wantRefused(t, d, p, api.ErrDown)
	}
	must(t, d.Restart(0))
	wantRecords(t, open(t, d, file), "one")
}

// 6.2, 6.5: what is read of a file, what is left of it, and whether that was damage.
func TestOpenReads(t *testing.T) {
	two := frames("one", "")
	for _, c := range []struct {
		what, whole, behind string
		damaged             bool
	}{
		{"nothing", "", "", false},
		{"whole frames", two, "", false},
		{"frames of all kinds", frames(someRecords()...), "", false},
		{"a length that is cut", two, "\x80", false},
		{"a longer length that is cut", "", strings.Repeat("\xff", 9), false},
		{"a text that is cut", two, "\x07to", false},
		{"no text", two, "\x07", false},
		{"a length beyond all bytes", two, "\xff\xff\xff\xff\xff\xff\xff\xff\x7f" + strings.Repeat("x", 100), false},
		{"no sum", two, "\x01a", false},
		{"a sum that is cut", two, frames("a")[:5], false},
		{"a text that has rotted", two, "\x01b" + frames("a")[2:], true},
		{"a sum that has rotted", two, frames("a")[:5] + "\x00", true},
		{"a rotten frame ahead of a whole one", two, "\x01b" + frames("a")[2:] + two, true},
		{"a rotten frame ahead of a torn one", "", "\x00abcd\x07to", true},
		{"no frame at all", "", "no frame at all", false},
		{"bytes that sum up to others", "", strings.Repeat("\x01", 100), true},
		{"a length that isn't the shortest", two, "\x81\x00a" + frames("a")[2:], true},
		{"a length of 2 to the 63", two, "\x80\x80\x80\x80\x80\x80\x80\x80\x80\x01", true},
		{"a length of more than 64 bits", two, strings.Repeat("\xff", 9) + "\x02", true},
	} {
		wantRead(t, c.what, c.whole, c.behind, c.damaged)
	}
}

func wantRead(t *testing.T, what, whole, behind string, damaged bool) {
	t.Helper()
	records, good, _ := frame.Scan(whole)
	if good != len(whole) {
		t.Fatalf("%s: %q isn't whole", what, whole)
	}
	d := holding(t, file, whole+behind)
	from := d.Steps()
	l := open(t, d, file)
	steps := 0
	if behind != "" {
		steps = fillSteps
	}
	if got := l.Records(); !slices.Equal(got, records) || l.Damaged() != damaged || d.Steps()-from != steps {
		t.Errorf("%s: %q, damaged %v, %d steps; want %q, %v, %d", what, got, l.Damaged(), d.Steps()-from, records, damaged, steps)
	}
	must(t, d.Restart(len(what)))
	wantFile(t, d, file, whole)
	wantList(t, d, "v", file)
	add(t, l, "more")
	again := open(t, d, file)
	wantRecords(t, again, append(records, "more")...)
	wantDamaged(t, again, false)
}

// 6.3: a record's frame comes behind the others, in two steps, and is kept.
func TestAdd(t *testing.T) {
	for loss := range 10 {
		d := volume(t)
		l := open(t, d, file)
		for i, record := range someRecords() {
			from := d.Steps()
			add(t, l, record)
			wantSteps(t, d, from, addSteps)
			wantRecords(t, l, someRecords()[:i+1]...)
		}
		must(t, d.Restart(loss))
		wantFile(t, d, file, frames(someRecords()...))
		wantRecords(t, open(t, d, file), someRecords()...)
	}
}

// 6.3: the first error of Append and Sync, with what was done ahead of it.
func TestAddRefusals(t *testing.T) {
	d := volume(t)
	l := open(t, d, file)
	add(t, l, "one")
	must(t, d.Limit("v", len(frames("one", "two"))))
	want(t, "Add without room", l.Add("four"), api.ErrFull)
	wantFile(t, d, file, frames("one"))
	l = open(t, d, file)
	add(t, l, "two")
	must(t, d.Remove(file))
	want(t, "Add to no file", l.Add("x"), api.ErrNone)
	must(t, d.Mkdir(file))
	want(t, "Add to a folder", l.Add("x"), api.ErrDir)
	for n, left := range []string{"", frames("x")} {
		d := volume(t)
		l := open(t, d, file)
		from := d.Steps()
		d.Arm(n)
		want(t, "Add at a stop", l.Add("x"), api.ErrDown)
		wantSteps(t, d, from, n)
		if used := d.Used("v"); used != len(left) {
			t.Errorf("armed by %d the file has %d bytes, want %d", n, used, len(left))
		}
		want(t, "Add of a stopped machine", l.Add("x"), api.ErrDown)
		want(t, "Reset of a stopped machine", l.Reset(), api.ErrDown)
		wantRefused(t, d, file, api.ErrDown)
	}
}

// 6.4
func TestReset(t *testing.T) {
	d := volume(t)
	l := open(t, d, file)
	for range 3 {
		from := d.Steps()
		must(t, l.Reset())
		wantSteps(t, d, from, fillSteps)
		wantRecords(t, l)
		wantFile(t, d, file, "")
		wantRecords(t, open(t, d, file))
		add(t, l, "one", "two")
		wantRecords(t, l, "one", "two")
		wantFile(t, d, file, frames("one", "two"))
	}
	must(t, d.Remove(file))
	must(t, l.Reset())
	wantFile(t, d, file, "")
	must(t, d.Remove(file), d.Mkdir(file))
	want(t, "Reset of a folder", l.Reset(), api.ErrDir)
	must(t, d.Remove(file), d.Remove(beside), d.Remove("v"))
	want(t, "Reset without a volume", l.Reset(), api.ErrNone)
	wantList(t, d, "")
}

// 6.5: what Open found stays told, whatever comes behind it; opened again it is found no more.
func TestDamagedStays(t *testing.T) {
	d := holding(t, file, frames("one")+"\x00abcd")
	l := open(t, d, file)
	wantDamaged(t, l, true)
	add(t, l, "two")
	wantDamaged(t, l, true)
	wantDamaged(t, open(t, d, file), false)
	must(t, l.Reset())
	wantDamaged(t, l, true)
	wantRecords(t, l)
	whole := open(t, d, file)
	must(t, d.Append(file, "\x00abcd"))
	wantDamaged(t, whole, false)
	wantDamaged(t, open(t, d, file), true)
	wantDamaged(t, whole, false)
}

// 6.5, rule 4: Records is new memory each time, spare room included.
func TestRecordsAreNew(t *testing.T) {
	d := holding(t, file, frames(someRecords()...))
	l := open(t, d, file)
	records := someRecords()
	for i := range 20 {
		for range 2 {
			list := l.Records()
			spare := list[:cap(list)]
			for j := range spare {
				spare[j] = "spoilt"
			}
			wantRecords(t, l, records...)
		}
		list := l.Records()
		record := strings.Repeat("x", i)
		records = append(records, record)
		add(t, l, record)
		if len(list) != len(records)-1 {
			t.Errorf("an earlier answer has %d records, want %d", len(list), len(records)-1)
		}
		_ = append(list, "spoilt")
		wantRecords(t, l, records...)
	}
	must(t, l.Reset())
	wantRecords(t, l)
}

// The chapter's example.
func TestExample(t *testing.T) {
	d := volume(t)
	l := open(t, d, file)
	add(t, l, "one", "")
	must(t, d.Append(file, "\x07\x74\x6f"))
	l = open(t, d, file)
	wantRecords(t, l, "one", "")
	wantDamaged(t, l, false)
	wantFile(t, d, file, frames("one", ""))
}

// Rule 6: two journals on two paths of one disk, and two on two disks, know nothing of one another.
func TestApart(t *testing.T) {
	d, other := volume(t), volume(t)
	a, b, c := open(t, d, file), open(t, d, "v/log2"), open(t, other, file)
	add(t, a, "one")
	add(t, b, "two", "three")
	must(t, c.Reset())
	wantRecords(t, a, "one")
	wantRecords(t, b, "two", "three")
	wantRecords(t, c)
	must(t, a.Reset())
	wantRecords(t, open(t, d, "v/log2"), "two", "three")
}

// Rule 1: no bit that turns in a length, and no number of them, makes a call panic; the records ahead are told.
func TestRottenLengths(t *testing.T) {
	records := someRecords()
	for i := range records {
		at := len(frames(records[:i]...))
		for bit := range 16 {
			d := holding(t, file, frames(records...))
			must(t, d.Rot(file, 8*at+bit))
			data, _ := d.Read(file)
			texts, good, broken := frame.Scan(data)
			l := open(t, d, file)
			wantRecords(t, l, texts...)
			wantDamaged(t, l, broken == api.ErrSum || broken == api.ErrForm)
			wantFile(t, d, file, data[:good])
			if len(texts) < i || !slices.Equal(texts[:i], records[:i]) {
				t.Errorf("bit %d of record %d: the records ahead of it are %q", bit, i, texts)
			}
		}
	}
}

// 6.2: Open takes any bytes: what a scan of them says holds.
func TestOpenOfAnyBytes(t *testing.T) {
	source := rand.New(rand.NewSource(6))
	for range 2000 {
		data := anyBytes(source)
		texts, good, broken := frame.Scan(data)
		d := holding(t, file, data)
		l := open(t, d, file)
		wantRecords(t, l, texts...)
		wantDamaged(t, l, broken == api.ErrSum || broken == api.ErrForm)
		wantFile(t, d, file, data[:good])
	}
}

// anyBytes are some frames, and some bytes of few kinds behind them.
func anyBytes(source *rand.Rand) string {
	out := []byte(frames(someRecords()[:source.Intn(5)]...))
	kinds := []byte{0, 1, 2, 5, 127, 128, 129, 255}
	for range source.Intn(20) {
		out = append(out, kinds[source.Intn(len(kinds))])
	}
	return string(out)
}
