package scan_test

import (
	"fmt"
	"math"
	"math/rand"
	"slices"
	"strconv"
	"strings"
	"testing"

	"tether/api"
	"tether/disk"
	"tether/scan"
	"tether/tree"
)

var (
	none = api.Node{}
	dir  = api.Node{Kind: api.Dir}
)

func file(data string) api.Node { return api.Node{Kind: api.File, Data: data} }

func at(p string, n api.Node) api.Entry { return api.Entry{Path: p, Node: n} }

func must(t *testing.T, errors ...api.Errno) {
	t.Helper()
	for i, e := range errors {
		if e != api.OK {
			t.Fatalf("call %d of %d: error %d", i+1, len(errors), e)
		}
	}
}

// small is the chapter's example: the folder a, the file a/x, the file b.
func small() []api.Entry {
	return []api.Entry{at("a", dir), at("a/x", file("one")), at("b", file("two"))}
}

// made is a disk with the example in the volume hub, all synced, and other things in volumes with names like that.
func made(t *testing.T) *disk.Disk {
	t.Helper()
	d := disk.New()
	for _, v := range []string{"hub", "hu", "hub0", "hub_", "s1", "empty"} {
		must(t, d.Mkdir(v))
	}
	must(t, d.Mkdir("hub/a"), d.Write("hub/a/x", "one"), d.Sync("hub/a/x"), d.Write("hub/b", "two"), d.Sync("hub/b"))
	must(t, d.Write("hu/b", "1"), d.Sync("hu/b"), d.Mkdir("hub0/a"), d.Write("hub0/a/x", "2"), d.Sync("hub0/a/x"), d.Write("hub_/b", "3"), d.Sync("hub_/b"), d.Mkdir("s1/hub"))
	return d
}

// someVolumes are those of made.
var someVolumes = []string{"hu", "hub", "hub0", "hub_", "s1", "empty"}

// noNames are texts that name no volume.
var noNames = []string{"", "/", "hub/", "/hub", "hub/a", "hub//a", "Hub", "hub.", "hub ", "\xff", "ä", strings.Repeat("a", api.MaxName+1)}

// somePaths are those that scripts and trees are made of, rising.
var somePaths = []string{"9", "a", "a/x", "a/x/y", "a/x/y/z", "a/x/y/z/a", "a/x/y/z/b", "a/x0", "a/x_", "a/y", "a0", "a0/x", "a_", "ab", "ab/a", "b", "b/x", "b/x/a", "c", "hub", "hub/hub"}

// listed is what stands in a volume, asked path by path: of volumes in which nothing but somePaths can stand.
func listed(d *disk.Disk, volume string) []api.Entry {
	var out []api.Entry
	for _, p := range somePaths {
		switch q := volume + "/" + p; d.Kind(q) {
		case api.Dir:
			out = append(out, at(p, dir))
		case api.File:
			data, _ := d.Read(q)
			out = append(out, at(p, file(data)))
		}
	}
	return out
}

// tell answers the first letters of what a test has got.
func tell(x any) string {
	return fmt.Sprintf("%.400s", fmt.Sprintf("%+q", x))
}

func wantWalk(t *testing.T, d *disk.Disk, volume string, want []api.Entry) {
	t.Helper()
	if got, e := scan.Walk(d, volume); e != api.OK || !slices.Equal(got, want) {
		t.Fatalf("Walk of %s = %s, %d; want %s", volume, tell(got), e, tell(want))
	}
}

// wantScan holds a scan to the words of 15.2, and answers what is seen now, and how many files were read.
func wantScan(t *testing.T, d *disk.Disk, volume string, seen []api.Seen, want []api.Entry) ([]api.Seen, int) {
	t.Helper()
	got, now, reads, e := scan.Scan(d, volume, seen)
	if e != api.OK || !slices.Equal(got, want) {
		t.Fatalf("Scan of %s = %s, %d; want %s", volume, tell(got), e, tell(want))
	}
	wantReads := 0
	if len(now) != len(want) {
		t.Fatalf("Scan of %s: %d seen of %d entries", volume, len(now), len(want))
	}
	for i, entry := range want {
		s := api.Seen{Path: entry.Path, Node: entry.Node}
		if entry.Node.Kind == api.File {
			s.Stamp = d.Stamp(volume + "/" + entry.Path)
		}
		if now[i] != s {
			t.Fatalf("Scan of %s: seen %s, want %s", volume, tell(now[i]), tell(s))
		}
		has := func(x api.Seen) bool {
			return x.Path == s.Path && x.Stamp == s.Stamp && x.Node.Kind == api.File
		}
		if s.Node.Kind == api.File && !slices.ContainsFunc(seen, has) {
			wantReads++
		}
	}
	if reads != wantReads {
		t.Fatalf("Scan of %s: %d reads, want %d", volume, reads, wantReads)
	}
	return now, reads
}

// wantRefused holds all three calls to one error, beside nothing else.
func wantRefused(t *testing.T, d *disk.Disk, volume string, want api.Errno) {
	t.Helper()
	if x, e := scan.Walk(d, volume); e != want || len(x) > 0 {
		t.Errorf("Walk(%q) = %s, %d; want %d", volume, tell(x), e, want)
	}
	for _, seen := range [][]api.Seen{nil, {{Path: "b", Stamp: 2, Node: file("two")}}} {
		if x, now, reads, e := scan.Scan(d, volume, seen); e != want || len(x) > 0 || len(now) > 0 || reads != 0 {
			t.Errorf("Scan(%q) = %s, %s, %d, %d; want %d", volume, tell(x), tell(now), reads, e, want)
		}
	}
	for _, x := range [][]api.Entry{nil, small()} {
		if e := scan.Lay(d, volume, x); e != want {
			t.Errorf("Lay(%q) = %d, want %d", volume, e, want)
		}
	}
}

// 15.1, 15.2, 15.3: each refusal, and which one is named first.
func TestRefusals(t *testing.T) {
	d := made(t)
	for _, v := range noNames {
		wantRefused(t, nil, v, api.ErrPath)
		wantRefused(t, d, v, api.ErrPath)
	}
	long := strings.Repeat("a", api.MaxName)
	absent := []string{"s2", "a", "b", "h", "hub1", "hub__", long}
	for _, v := range append(absent, "hub") {
		wantRefused(t, nil, v, api.ErrInput)
	}
	steps := d.Steps()
	for _, v := range absent {
		wantRefused(t, d, v, api.ErrNone)
		wantRefused(t, disk.New(), v, api.ErrNone)
	}
	d.Arm(0)
	for _, v := range absent {
		wantRefused(t, d, v, api.ErrNone)
	}
	if d.Down() || d.Steps() != steps {
		t.Errorf("refused calls have done %d steps, down %t", d.Steps()-steps, d.Down())
	}
	if e := d.Mkdir("s2"); e != api.ErrDown {
		t.Fatalf("Mkdir of a machine that stops = %d", e)
	}
	for _, v := range append(absent, "hub", "empty") {
		wantRefused(t, d, v, api.ErrDown)
	}
	for _, v := range noNames {
		wantRefused(t, d, v, api.ErrPath)
	}
	must(t, d.Restart(1))
	wantWalk(t, d, "hub", small())
	must(t, d.Mkdir(long))
	wantWalk(t, d, long, nil)
}

// 15.1, with the chapter's example: one volume's things, and no other's.
func TestWalk(t *testing.T) {
	d := made(t)
	wantWalk(t, d, "hub", small())
	wantWalk(t, d, "empty", nil)
	wantWalk(t, d, "hu", []api.Entry{at("b", file("1"))})
	wantWalk(t, d, "hub0", []api.Entry{at("a", dir), at("a/x", file("2"))})
	wantWalk(t, d, "hub_", []api.Entry{at("b", file("3"))})
	wantWalk(t, d, "s1", []api.Entry{at("hub", dir)})
	must(t, d.Mkdir("hub/hub"), d.Mkdir("hub/hub/hub"), d.Write("hub/hub/hub/hub", ""))
	wantWalk(t, d, "hub", append(small(), at("hub", dir), at("hub/hub", dir), at("hub/hub/hub", file(""))))
	wantWalk(t, d, "s1", []api.Entry{at("hub", dir)})
}

// 15.1: what stands below a path comes ahead of the names that the path begins.
func TestWalkRises(t *testing.T) {
	d := disk.New()
	must(t, d.Mkdir("v"))
	var want []api.Entry
	for _, p := range somePaths {
		n := dir
		if strings.HasPrefix(p, "a/x/y/z/") {
			n = file(p)
			must(t, d.Write("v/"+p, p))
		} else {
			must(t, d.Mkdir("v/"+p))
		}
		want = append(want, at(p, n))
	}
	wantWalk(t, d, "v", want)
	if !slices.IsSortedFunc(want, func(a, b api.Entry) int { return strings.Compare(a.Path, b.Path) }) {
		t.Errorf("the paths of the test don't rise")
	}
}

// 15.1: the bytes that are seen, whatever is kept of them; a walk is no step, so that nothing stops ahead of it.
func TestWalkTellsSeenBytes(t *testing.T) {
	d := made(t)
	must(t, d.Append("hub/b", "more"), d.Write("hub/a/x", "\x00\xff"), d.Write("hub/a/y", ""))
	want := []api.Entry{at("a", dir), at("a/x", file("\x00\xff")), at("a/y", file("")), at("b", file("twomore"))}
	steps := d.Steps()
	d.Arm(0)
	for range 3 {
		wantWalk(t, d, "hub", want)
		wantScan(t, d, "hub", nil, want)
	}
	if d.Steps() != steps || d.Down() {
		t.Errorf("walks have done %d steps, down %t", d.Steps()-steps, d.Down())
	}
	d.Arm(-1)
	must(t, d.Rot("hub/b", 0))
	want[3] = at("b", file("uwomore"))
	wantWalk(t, d, "hub", want)
}

// 15.1: a volume may hold what no tree may.
func TestWalkOfMoreThanATree(t *testing.T) {
	d := disk.New()
	must(t, d.Mkdir("v"), d.Mkdir("v/f"))
	want := []api.Entry{at("f", dir)}
	for i := range 3 * api.MaxEntries {
		p := "f/n" + strconv.Itoa(1000+i)
		must(t, d.Write("v/"+p, p))
		want = append(want, at(p, file(p)))
	}
	long := strings.Repeat("x", 3*api.MaxData)
	must(t, d.Write("v/g", long), d.Write("v/h", long[:api.MaxData+1]))
	want = append(want, at("g", file(long)), at("h", file(long[:api.MaxData+1])))
	wantWalk(t, d, "v", want)
	seen, reads := wantScan(t, d, "v", nil, want)
	if reads != len(want)-1 {
		t.Errorf("%d reads of %d files", reads, len(want)-1)
	}
	if _, reads := wantScan(t, d, "v", seen, want); reads != 0 {
		t.Errorf("%d reads where nothing is new", reads)
	}
	must(t, scan.Lay(d, "v", small()))
	wantWalk(t, d, "v", small())
}

// wantReads scans the volume hub, and answers what is seen now.
func wantReads(t *testing.T, d *disk.Disk, seen []api.Seen, want int) []api.Seen {
	t.Helper()
	now, reads := wantScan(t, d, "hub", seen, listed(d, "hub"))
	if reads != want {
		t.Errorf("%d reads, want %d", reads, want)
	}
	return now
}

// 15.2, with the chapter's example
func TestScanReads(t *testing.T) {
	d := made(t)
	first := wantReads(t, d, nil, 2)
	if want := []api.Seen{{Path: "a", Node: dir}, {Path: "a/x", Stamp: 1, Node: file("one")}, {Path: "b", Stamp: 2, Node: file("two")}}; !slices.Equal(first, want) {
		t.Errorf("seen %v, want %v", first, want)
	}
	wantReads(t, d, []api.Seen{}, 2)
	wantReads(t, d, first, 0)
	must(t, d.Write("hub/b", "anew"))
	second := wantReads(t, d, first, 1)
	wantReads(t, d, second, 0)
	wantReads(t, d, first, 1)
	must(t, d.Write("hub/a/x", "1"), d.Write("hub/a/y", "2"), d.Mkdir("hub/c"))
	wantReads(t, d, second, 2)
	wantReads(t, d, first, 3)
	wantReads(t, d, nil, 3)
	must(t, d.Mkdir("hub/a"), d.Sync("hub/b"), d.Write("hub0/a/x", "other"))
	third := wantReads(t, d, nil, 3)
	must(t, d.Remove("hub/b"), d.Remove("hub/c"))
	wantReads(t, d, third, 0)
}

// 15.2: all that gives a file a new stamp, and what doesn't.
func TestScanOfNewStamps(t *testing.T) {
	for _, x := range []struct {
		what  string
		do    func(d *disk.Disk) api.Errno
		reads int
	}{
		{"nothing", func(d *disk.Disk) api.Errno { return api.OK }, 0},
		{"a sync", func(d *disk.Disk) api.Errno { return d.Sync("hub/b") }, 0},
		{"a folder", func(d *disk.Disk) api.Errno { return d.Mkdir("hub/c") }, 0},
		{"a folder that is there", func(d *disk.Disk) api.Errno { return d.Mkdir("hub/a") }, 0},
		{"a loss of nothing", func(d *disk.Disk) api.Errno { return d.Restart(3) }, 0},
		{"a file that goes", func(d *disk.Disk) api.Errno { return d.Remove("hub/b") }, 0},
		{"the same bytes", func(d *disk.Disk) api.Errno { return d.Write("hub/b", "two") }, 1},
		{"as many other bytes", func(d *disk.Disk) api.Errno { return d.Write("hub/b", "owt") }, 1},
		{"no bytes", func(d *disk.Disk) api.Errno { return d.Write("hub/b", "") }, 1},
		{"nothing behind", func(d *disk.Disk) api.Errno { return d.Append("hub/b", "") }, 1},
		{"bytes behind", func(d *disk.Disk) api.Errno { return d.Append("hub/b", "x") }, 1},
		{"a turned bit", func(d *disk.Disk) api.Errno { return d.Rot("hub/b", 7) }, 1},
		{"another path", func(d *disk.Disk) api.Errno { return d.Rename("hub/b", "hub/c") }, 1},
		{"the same path", func(d *disk.Disk) api.Errno { return d.Rename("hub/b", "hub/b") }, 1},
		{"another file's place", func(d *disk.Disk) api.Errno { return d.Rename("hub/b", "hub/a/x") }, 1},
		{"a new file", func(d *disk.Disk) api.Errno { return d.Write("hub/c", "two") }, 1},
		{"a file in place of one that went", func(d *disk.Disk) api.Errno { return max(d.Remove("hub/b"), d.Write("hub/b", "two")) }, 1},
		{"a folder in place of a file", func(d *disk.Disk) api.Errno { return max(d.Remove("hub/b"), d.Mkdir("hub/b")) }, 0},
		{"a file in place of a folder", func(d *disk.Disk) api.Errno {
			return max(d.Remove("hub/a/x"), d.Remove("hub/a"), d.Write("hub/a", "one"))
		}, 1},
		{"two paths that change their places", func(d *disk.Disk) api.Errno {
			return max(d.Rename("hub/b", "hub/c"), d.Rename("hub/a/x", "hub/b"), d.Rename("hub/c", "hub/a/x"))
		}, 2},
	} {
		d := made(t)
		seen := wantReads(t, d, nil, 2)
		must(t, x.do(d))
		now, reads := wantScan(t, d, "hub", seen, listed(d, "hub"))
		if reads != x.reads {
			t.Errorf("%s: %d reads, want %d", x.what, reads, x.reads)
		}
		wantReads(t, d, now, 0)
	}
}

// 15.2: a loss gives each loose file a stamp, whether its bytes have changed or not.
func TestScanBehindALoss(t *testing.T) {
	unlike := 0
	for loss := range 50 {
		d := made(t)
		must(t, d.Write("hub/b", "written"), d.Write("hub/a/y", "too"))
		seen := wantReads(t, d, nil, 3)
		must(t, d.Restart(loss))
		now := wantReads(t, d, seen, 2)
		if !slices.EqualFunc(now, seen, func(a, b api.Seen) bool { return a.Node == b.Node }) {
			unlike++
		}
	}
	if unlike == 0 {
		t.Errorf("no loss has changed anything")
	}
}

// 15.2: a file that comes and goes, and folders in its place: none of those is taken for another one.
func TestScanOfAllKindsAtAPath(t *testing.T) {
	d := disk.New()
	must(t, d.Mkdir("hub"), d.Mkdir("hub/a"))
	folder := wantReads(t, d, nil, 0)
	must(t, d.Remove("hub/a"), d.Write("hub/a", "1"))
	one := wantReads(t, d, folder, 1)
	must(t, d.Remove("hub/a"), d.Mkdir("hub/a"))
	wantReads(t, d, one, 0)
	must(t, d.Write("hub/a/x", "1"), d.Remove("hub/a/x"), d.Remove("hub/a"), d.Write("hub/a", "2"))
	wantReads(t, d, one, 1)
	wantReads(t, d, folder, 1)
}

// someSteps does things in a volume, refused ones among them.
func someSteps(source *rand.Rand, d *disk.Disk, volume string, count int) {
	some := func() string { return volume + "/" + somePaths[source.Intn(len(somePaths))] }
	data := func() string { return strings.Repeat(string(rune('a'+source.Intn(3))), source.Intn(4)) }
	for range count {
		switch source.Intn(16) {
		case 0, 1, 2, 3:
			d.Mkdir(some())
		case 4, 5, 6, 7, 8:
			d.Write(some(), data())
		case 9, 10:
			d.Append(some(), data())
		case 11:
			d.Rename(some(), some())
		case 12, 13:
			d.Remove(some())
		case 14:
			d.Sync(some())
		case 15:
			if p := some(); source.Intn(2) == 0 {
				d.Rot(p, source.Int())
			} else if source.Intn(3) == 0 {
				d.Restart(source.Int())
			}
		}
	}
}

// 15.1, 15.2: scripts, and behind some steps of each a scan with what any earlier scan has seen.
func TestScansOfScripts(t *testing.T) {
	entries, reads, files := 0, 0, 0
	for seed := range 200 {
		source := rand.New(rand.NewSource(int64(seed)))
		d := made(t)
		histories := map[string][][]api.Seen{}
		for range 30 {
			volume := someVolumes[source.Intn(len(someVolumes))]
			someSteps(source, d, volume, source.Intn(12))
			want := listed(d, volume)
			wantWalk(t, d, volume, want)
			seen := histories[volume]
			var last []api.Seen
			if len(seen) > 0 {
				last = seen[len(seen)-1-source.Intn(min(len(seen), 3))]
			}
			now, n := wantScan(t, d, volume, last, want)
			histories[volume] = append(seen, now)
			entries, reads = entries+len(want), reads+n
			for _, entry := range want {
				files += entry.Node.Kind / api.File
			}
		}
	}
	if entries < 10000 || reads < 1000 || files-reads < 1000 {
		t.Errorf("met but %d entries, %d files, %d of them read", entries, files, reads)
	}
}

// 15.2 and rule 4: nothing that is handed in changes, and no answer hangs on what the caller writes into another one.
func TestScanSharesNothing(t *testing.T) {
	d := made(t)
	_, first, _, _ := scan.Scan(d, "hub", nil)
	spare := append(slices.Clone(first), api.Seen{Path: "c", Stamp: 3, Node: file("3")}, api.Seen{Path: "d", Node: dir})
	room := spare[:len(first)]
	before := slices.Clone(spare)
	must(t, d.Write("hub/b", "anew"))
	x, now, _, _ := scan.Scan(d, "hub", room)
	if !slices.Equal(spare, before) {
		t.Errorf("what was seen was changed to %s", tell(spare))
	}
	clear(spare)
	keptNow, keptTree := slices.Clone(now), slices.Clone(x)
	y, again, _, _ := scan.Scan(d, "hub", now)
	w, _ := scan.Walk(d, "hub")
	for _, list := range [][]api.Entry{y[:cap(y)], w[:cap(w)]} {
		clear(list)
	}
	clear(again[:cap(again)])
	if !slices.Equal(now, keptNow) || !slices.Equal(x, keptTree) {
		t.Errorf("what was written into an answer came into an earlier one: %s, %s", tell(now), tell(x))
	}
	clear(now[:cap(now)])
	if !slices.Equal(x, keptTree) {
		t.Errorf("what was written into now came into the tree: %s", tell(x))
	}
	wantWalk(t, d, "hub", keptTree)
	wantReads(t, d, keptNow, 0)
}

// 15.2: of lists that no scan has answered it is told alone that the call ends.
func TestScanEndsWithAnyList(t *testing.T) {
	source := rand.New(rand.NewSource(15))
	paths := append([]string{"", "/", "A", "a/", "\xff", "hub/b"}, somePaths...)
	nodes := []api.Node{none, dir, file(""), file("other"), {Kind: 7, Data: "x"}, {Kind: math.MinInt}, {Kind: api.Dir, Data: "x"}}
	d := made(t)
	for range 2000 {
		var seen []api.Seen
		for range source.Intn(8) {
			seen = append(seen, api.Seen{Path: paths[source.Intn(len(paths))], Stamp: source.Intn(4), Node: nodes[source.Intn(len(nodes))]})
		}
		if _, _, _, e := scan.Scan(d, "hub", seen); e != api.OK {
			t.Fatalf("Scan with %s: error %d", tell(seen), e)
		}
	}
	extreme := []api.Seen{{Path: "b", Stamp: math.MinInt, Node: file("x")}, {Path: "b", Stamp: math.MaxInt, Node: file("x")}, {Path: "b", Stamp: -2, Node: file("x")}}
	wantReads(t, d, extreme, 2)
}

// 15.4
func TestChanged(t *testing.T) {
	old := small()
	for _, x := range []struct {
		now  []api.Entry
		want []string
	}{
		{old, nil},
		{nil, []string{"a", "a/x", "b"}},
		{[]api.Entry{at("a", dir), at("a/x", file("one")), at("b", file("three"))}, []string{"b"}},
		{[]api.Entry{at("a", file("x")), at("b", dir), at("b/y", file(""))}, []string{"a", "a/x", "b", "b/y"}},
		{[]api.Entry{at("9", dir), at("a", dir), at("a/w", file("")), at("a/x", file("one")), at("b", file("two"))}, []string{"9", "a/w"}},
	} {
		if got := scan.Changed(old, x.now); !slices.Equal(got, x.want) {
			t.Errorf("Changed to %s = %q, want %q", tell(x.now), got, x.want)
		}
		if got := scan.Changed(x.now, old); !slices.Equal(got, x.want) {
			t.Errorf("Changed from %s = %q, want %q", tell(x.now), got, x.want)
		}
	}
	if got := scan.Changed(nil, nil); len(got) != 0 {
		t.Errorf("Changed of nothing = %q", got)
	}
	trees := someTrees(rand.New(rand.NewSource(154)), 80)
	for _, a := range trees {
		for _, b := range trees {
			if got, want := scan.Changed(a, b), tree.Diff(a, b); !slices.Equal(got, want) {
				t.Fatalf("Changed(%s, %s) = %q, want %q", tell(a), tell(b), got, want)
			}
		}
	}
}
