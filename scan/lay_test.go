package scan_test

import (
	"math"
	"math/rand"
	"slices"
	"strings"
	"testing"

	"tether/api"
	"tether/disk"
	"tether/scan"
	"tether/tree"
)

// someTrees are trees of all shapes that a few paths can make.
func someTrees(source *rand.Rand, count int) [][]api.Entry {
	nodes := []api.Node{none, dir, dir, dir, file(""), file("a"), file("aa"), file("bb\x00\xff"), file(strings.Repeat("m", api.MaxData))}
	var out [][]api.Entry
	for range count {
		var t []api.Entry
		for range source.Intn(40) {
			if x, e := tree.Put(t, somePaths[source.Intn(len(somePaths))], nodes[source.Intn(len(nodes))]); e == api.OK {
				t = x
			}
		}
		out = append(out, t)
	}
	return out
}

// step is one that Lay does: its word, and the disk's path.
type step struct {
	word, p, data string
}

func (s step) on(d *disk.Disk) api.Errno {
	switch s.word {
	case "Remove":
		return d.Remove(s.p)
	case "Mkdir":
		return d.Mkdir(s.p)
	case "Write":
		return d.Write(s.p, s.data)
	}
	return d.Sync(s.p)
}

// laid is 15.3 as a list of steps, where none is refused.
func laid(stood, t []api.Entry, volume string) []step {
	kinds, nodes := map[string]int{}, map[string]api.Node{}
	for _, entry := range t {
		kinds[entry.Path] = entry.Node.Kind
	}
	var out []step
	for i := range stood {
		entry := stood[len(stood)-1-i]
		if kinds[entry.Path] != entry.Node.Kind {
			out = append(out, step{word: "Remove", p: volume + "/" + entry.Path})
		} else {
			nodes[entry.Path] = entry.Node
		}
	}
	for _, entry := range t {
		p := volume + "/" + entry.Path
		if entry.Node == dir {
			out = append(out, step{word: "Mkdir", p: p})
		} else if nodes[entry.Path] != entry.Node {
			out = append(out, step{word: "Write", p: p, data: entry.Node.Data}, step{word: "Sync", p: p})
		}
	}
	return out
}

// wantDone does steps till one is refused, on a disk that is like the one on which Lay was called, and holds the two to be alike behind them.
func wantDone(t *testing.T, d, twin *disk.Disk, steps []step, got api.Errno) {
	t.Helper()
	want := api.OK
	for _, s := range steps {
		if want = s.on(twin); want != api.OK {
			break
		}
	}
	if got != want {
		t.Fatalf("Lay = %d, want %d", got, want)
	}
	wantAlike(t, d, twin)
}

// wantAlike holds two disks to be alike in all that they tell.
func wantAlike(t *testing.T, d, twin *disk.Disk) {
	t.Helper()
	if d.Steps() != twin.Steps() || d.Down() != twin.Down() {
		t.Fatalf("%d steps, down %t; want %d, %t", d.Steps(), d.Down(), twin.Steps(), twin.Down())
	}
	if !slices.Equal(d.List(""), twin.List("")) {
		t.Fatalf("volumes %q, want %q", d.List(""), twin.List(""))
	}
	for _, v := range someVolumes {
		if got, want := listed(d, v), listed(twin, v); !slices.Equal(got, want) {
			t.Fatalf("%s holds %s, want %s", v, tell(got), tell(want))
		}
		for _, p := range somePaths {
			if q := v + "/" + p; d.Stamp(q) != twin.Stamp(q) {
				t.Fatalf("stamp of %s is %d, want %d", q, d.Stamp(q), twin.Stamp(q))
			}
		}
	}
}

// kept lays a tree in the volume hub of a disk like made's, so that all of it is synced.
func kept(t *testing.T, x []api.Entry) *disk.Disk {
	t.Helper()
	d := made(t)
	for _, s := range laid(small(), x, "hub") {
		must(t, s.on(d))
	}
	wantWalk(t, d, "hub", x)
	return d
}

// 15.3: what stood there goes, stays or changes.
func TestLay(t *testing.T) {
	d := made(t)
	for _, x := range [][]api.Entry{
		small(),
		{at("a", file("now a file")), at("b", dir), at("b/y", file(""))},
		{at("a", dir), at("a/x", dir), at("a/x/y", dir), at("a/x/y/z", dir), at("a/x/y/z/a", file("deep"))},
		{at("a", dir), at("a/x", file("deep"))},
		{at("a", file(strings.Repeat("x", api.MaxData)))},
		nil,
		nil,
		{at("a", dir), at("a0", dir), at("a0/x", file("\x00\xff"))},
		small(),
	} {
		others := listed(d, "hub0")
		if e := scan.Lay(d, "hub", x); e != api.OK {
			t.Fatalf("Lay of %s = %d", tell(x), e)
		}
		wantWalk(t, d, "hub", x)
		wantWalk(t, d, "hub0", others)
	}
	must(t, scan.Lay(d, "empty", small()), scan.Lay(d, "hub", nil))
	wantWalk(t, d, "empty", small())
	wantWalk(t, d, "hub", nil)
	if d.Kind("hub") != api.Dir {
		t.Errorf("the volume went with what was in it")
	}
}

// full is a tree of as many entries as may be: the folder a, the rest of them in it.
func full(data string) []api.Entry {
	t := []api.Entry{at("a", dir)}
	for i := range api.MaxEntries - 1 {
		t = append(t, at("a/"+string(rune('a'+i/26))+string(rune('a'+i%26)), file(data)))
	}
	return t
}

// 15.3: trees of as many entries as may be.
func TestLayOfFullTrees(t *testing.T) {
	d := made(t)
	must(t, scan.Lay(d, "hub", full("1")))
	wantWalk(t, d, "hub", full("1"))
	must(t, scan.Lay(d, "hub", full("2")))
	wantWalk(t, d, "hub", full("2"))
	must(t, scan.Lay(d, "hub", small()))
	wantWalk(t, d, "hub", small())
}

// wantTaken lays a tree in the volume hub of made's disk, and counts the steps.
func wantTaken(t *testing.T, x []api.Entry, want int) *disk.Disk {
	t.Helper()
	d := made(t)
	steps := d.Steps()
	must(t, scan.Lay(d, "hub", x))
	if got := d.Steps() - steps; got != want {
		t.Errorf("Lay of %s: %d steps, want %d", tell(x), got, want)
	}
	wantWalk(t, d, "hub", x)
	return d
}

// 15.3: a folder is made each time, a file whose bytes are there isn't written, one of other bytes isn't removed first.
func TestLaySteps(t *testing.T) {
	d := wantTaken(t, small(), 1)
	if d.Stamp("hub/b") != 2 || d.Stamp("hub/a/x") != 1 {
		t.Errorf("files whose bytes were there were written anew")
	}
	wantTaken(t, nil, 3)
	wantTaken(t, []api.Entry{at("a", dir), at("b", file("two"))}, 2)
	wantTaken(t, []api.Entry{at("a", dir), at("a/x", file("one")), at("b", file("Two"))}, 3)
	wantTaken(t, []api.Entry{at("a", dir), at("a/x", file("")), at("b", file("two"))}, 3)
	wantTaken(t, []api.Entry{at("a", file("one")), at("b", file("two"))}, 4)
	wantTaken(t, []api.Entry{at("a", dir), at("a/x", dir), at("b", dir)}, 5)
	wantTaken(t, append(small(), at("c", file(""))), 3)
}

// 15.3: a file that isn't there has no bytes, so that an empty one is written too.
func TestLayOfEmptyFiles(t *testing.T) {
	d := wantTaken(t, append(small(), at("c", file(""))), 3)
	if d.Kind("hub/c") != api.File {
		t.Errorf("an empty file isn't there")
	}
	steps := d.Steps()
	must(t, scan.Lay(d, "hub", append(small(), at("c", file("")))))
	if d.Steps() != steps+1 {
		t.Errorf("an empty file that is there was written again")
	}
}

// 15.3: the same steps in the same order as the words say, on all volumes and trees that scripts make.
func TestLayOfScripts(t *testing.T) {
	taken := 0
	for seed := range 400 {
		source := rand.New(rand.NewSource(int64(seed)))
		again := rand.New(rand.NewSource(int64(seed)))
		d, twin := made(t), made(t)
		for _, x := range someTrees(rand.New(rand.NewSource(int64(seed))), 4) {
			someSteps(source, d, "hub", 20)
			someSteps(again, twin, "hub", 20)
			steps := laid(listed(twin, "hub"), x, "hub")
			wantDone(t, d, twin, steps, scan.Lay(d, "hub", x))
			wantWalk(t, d, "hub", x)
			taken += len(steps)
		}
	}
	if taken < 10000 {
		t.Errorf("but %d steps were taken", taken)
	}
}

// 15.3: each place of a stop; what was done ahead of it is done, and Lay behind it makes the tree.
func TestLayStops(t *testing.T) {
	trees := someTrees(rand.New(rand.NewSource(153)), 24)
	for i, x := range trees {
		stood := trees[(i+1)%len(trees)]
		steps := laid(stood, x, "hub")
		for n := range len(steps) + 1 {
			d, twin := kept(t, stood), kept(t, stood)
			d.Arm(n)
			twin.Arm(n)
			e := scan.Lay(d, "hub", x)
			if (e == api.ErrDown) != (n < len(steps)) {
				t.Fatalf("Lay with a stop behind %d of %d steps = %d", n, len(steps), e)
			}
			wantDone(t, d, twin, steps, e)
			if n < len(steps) {
				wantRefused(t, d, "hub", api.ErrDown)
			}
			must(t, d.Restart(n), twin.Restart(n))
			wantAlike(t, d, twin)
			must(t, scan.Lay(d, "hub", x))
			wantWalk(t, d, "hub", x)
		}
	}
}

// 15.3: the first error ends it; what was done ahead of it is done.
func TestLayWithoutRoom(t *testing.T) {
	for limit := range 9 {
		d, twin := made(t), made(t)
		must(t, d.Limit("hub", limit), twin.Limit("hub", limit))
		x := []api.Entry{at("a", dir), at("a/y", file("1234")), at("b", file("567")), at("c", file("8"))}
		want := api.OK
		if limit < 8 {
			want = api.ErrFull
		}
		e := scan.Lay(d, "hub", x)
		if e != want {
			t.Errorf("Lay of 8 bytes with room for %d = %d, want %d", limit, e, want)
		}
		wantDone(t, d, twin, laid(small(), x, "hub"), e)
	}
}

// 15.3: room is asked for as the steps come, by rising path, behind all that goes.
func TestLayRoomAsItGoes(t *testing.T) {
	d := made(t)
	must(t, d.Limit("hub", 6))
	if e := scan.Lay(d, "hub", []api.Entry{at("a", dir), at("a/x", file("12345")), at("b", file("6"))}); e != api.ErrFull {
		t.Errorf("a grows ahead of b, which becomes less: %d, want %d", e, api.ErrFull)
	}
	wantWalk(t, d, "hub", small())
	must(t, scan.Lay(d, "hub", []api.Entry{at("a", dir), at("a/x", file("1")), at("b", file("23456"))}))
	must(t, scan.Lay(d, "hub", []api.Entry{at("a", file("654321"))}))
	wantWalk(t, d, "hub", []api.Entry{at("a", file("654321"))})
}

// 15.5: what was laid outlives every loss.
func TestLayOutlivesLosses(t *testing.T) {
	source := rand.New(rand.NewSource(155))
	trees := someTrees(source, 40)
	for i, x := range trees {
		d := kept(t, trees[(i+1)%len(trees)])
		must(t, scan.Lay(d, "hub", x))
		wantWalk(t, d, "hub", x)
		for range 10 {
			must(t, d.Restart(source.Int()))
			wantWalk(t, d, "hub", x)
		}
	}
}

// 15.5: bytes that weren't synced are written over.
func TestLayOverLooseFiles(t *testing.T) {
	for loss := range 100 {
		d := made(t)
		must(t, d.Write("hub/b", "loose"), d.Append("hub/a/x", "loose"), d.Write("hub/a/y", "loose"))
		must(t, scan.Lay(d, "hub", small()))
		must(t, d.Restart(loss))
		wantWalk(t, d, "hub", small())
	}
}

// 15.3 and rule 4: the tree that is handed in isn't changed, nor the room behind it, and isn't kept.
func TestLayLeavesTheTree(t *testing.T) {
	d := made(t)
	x := []api.Entry{at("a", file("1")), at("c", dir), at("c/d", file("2"))}
	spare := append(slices.Clone(x), at("d", dir), at("e", file("3")))
	room := spare[:len(x)]
	before := slices.Clone(spare)
	must(t, scan.Lay(d, "hub", room))
	if !slices.Equal(spare, before) {
		t.Errorf("the tree was changed to %s", tell(spare))
	}
	clear(spare)
	wantWalk(t, d, "hub", x)
}

// 15.3: of lists that are no trees it is told alone that the call ends.
func TestLayEndsWithAnyList(t *testing.T) {
	source := rand.New(rand.NewSource(16))
	paths := append([]string{"", "/", "A", "a/", "\xff", "a//b", "a/b/c/d/e/f", "../hub0/a"}, somePaths...)
	nodes := []api.Node{none, {Data: "x"}, dir, dir, file(""), file("other"), file(strings.Repeat("x", api.MaxData+1)), {Kind: 7, Data: "x"}, {Kind: math.MinInt}, {Kind: api.Dir, Data: "x"}}
	for range 3000 {
		var x []api.Entry
		for range source.Intn(12) {
			x = append(x, at(paths[source.Intn(len(paths))], nodes[source.Intn(len(nodes))]))
		}
		d := made(t)
		scan.Lay(d, "hub", x)
		wantWalk(t, d, "hub0", []api.Entry{at("a", dir), at("a/x", file("2"))})
	}
	must(t, scan.Lay(made(t), "hub", full("x")))
	scan.Lay(made(t), "hub", append(full("x"), at("b", dir)))
}
