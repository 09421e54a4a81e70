package archive_test

import (
	"hash/crc32"
	"maps"
	"math"
	"math/rand"
	"slices"
	"strconv"
	"strings"
	"testing"

	"tether/api"
	"tether/archive"
	"tether/blob"
	"tether/disk"
	"tether/frame"
	"tether/table"
	"tether/tree"
)

const (
	dir      = "sys"
	byteBits = 8
)

// noSpokes are numbers that no spoke has.
var noSpokes = []int{0, -1, api.MaxSpokes + 1, api.MaxSpokes * 10, math.MinInt, math.MaxInt, math.MinInt + 1, 1 << 32}

func folder(p string) api.Entry {
	return api.Entry{Path: p, Node: api.Node{Kind: api.Dir}}
}

func file(p, data string) api.Entry {
	return api.Entry{Path: p, Node: api.Node{Kind: api.File, Data: data}}
}

func open(t *testing.T, d *disk.Disk) *table.Table {
	t.Helper()
	x, e := table.Open(d, dir)
	if e != api.OK {
		t.Fatalf("Open = %d", e)
	}
	return x
}

// batch is one of a new table.
func batch(t *testing.T) *table.Batch {
	t.Helper()
	return open(t, disk.New()).Begin()
}

func save(t *testing.T, b *table.Batch, spoke int, l []api.Entry) {
	t.Helper()
	if e := archive.Save(b, spoke, l); e != api.OK {
		t.Fatalf("Save of %d = %d", spoke, e)
	}
}

func turn(t *testing.T, b *table.Batch, spoke, bit int) {
	t.Helper()
	if e := archive.Turn(b, spoke, bit); e != api.OK {
		t.Fatalf("Turn of %d = %d", spoke, e)
	}
}

func forget(t *testing.T, b *table.Batch, spoke int) {
	t.Helper()
	if e := archive.Forget(b, spoke); e != api.OK {
		t.Fatalf("Forget of %d = %d", spoke, e)
	}
}

func wantTree(t *testing.T, b *table.Batch, spoke int, want []api.Entry) {
	t.Helper()
	if l, e := archive.Load(b, spoke); e != api.OK || !slices.Equal(l, want) {
		t.Fatalf("Load of %d = %.200v, %d; want %.200v", spoke, l, e, want)
	}
}

func wantRefused(t *testing.T, b *table.Batch, spoke int, want api.Errno) {
	t.Helper()
	if l, e := archive.Load(b, spoke); e != want || len(l) != 0 {
		t.Fatalf("Load of %d = %.200v, %d; want %d", spoke, l, e, want)
	}
}

// all answers all keys of a batch with their values.
func all(b *table.Batch) map[string]string {
	out := map[string]string{}
	for _, key := range b.Keys("") {
		out[key], _ = b.Get(key)
	}
	return out
}

// contents answers what is kept as blobs, and how often each is held; none is kept twice.
func contents(t *testing.T, b *table.Batch) map[string]int {
	t.Helper()
	out := map[string]int{}
	for _, key := range b.Keys("b/") {
		data, e := blob.Get(b, key)
		if _, twice := out[data]; e != api.OK || twice {
			t.Fatalf("%q is kept at %q too, %d", data, key, e)
		}
		out[data] = blob.Refs(b, key)
	}
	return out
}

func wantContents(t *testing.T, b *table.Batch, want map[string]int) {
	t.Helper()
	if got := contents(t, b); !maps.Equal(got, want) {
		t.Fatalf("kept are %.300v, want %.300v", got, want)
	}
}

// bitsOf answers how many bits the value of a spoke's archive has.
func bitsOf(b *table.Batch, spoke int) int {
	v, _ := b.Get("a/" + strconv.Itoa(spoke))
	return byteBits * len(v)
}

// alike are contents whose sums have the same low byte, and so get keys of one kind.
func alike(count int) []string {
	var out []string
	for i := 0; len(out) < count; i++ {
		s := "content " + strconv.Itoa(i)
		if byte(crc32.ChecksumIEEE([]byte(s))) == 0x43 {
			out = append(out, s)
		}
	}
	return out
}

// great is a tree with as many entries, as deep paths and as great files as there may be.
func great(seed byte) []api.Entry {
	var out []api.Entry
	for deep := 1; deep < api.MaxDeep; deep++ {
		out = append(out, folder(strings.Repeat("/"+strings.Repeat("a", api.MaxName), deep)[1:]))
	}
	last := out[len(out)-1].Path
	for n := len(out); n < api.MaxEntries; n++ {
		name := "b" + strconv.Itoa(1000+n)
		out = append(out, file(last+"/"+name, strings.Repeat(string([]byte{seed, byte(n)}), api.MaxData/2)))
	}
	return out
}

// someTrees are trees of all kinds.
func someTrees() [][]api.Entry {
	return [][]api.Entry{
		nil,
		{folder("a")},
		{file("a", "")},
		{file("a", "\x00")},
		{file("a", "x")},
		{folder("a"), file("a/x", "hi"), file("b", "")},
		{folder("a"), file("a/x", "hi"), file("a0", "hi"), file("b", "hi")},
		{folder("a"), folder("a/a"), folder("a/a/a"), folder("a/a/a/a"), file("a/a/a/a/a", "deep"), file("z", "\xff\xfe")},
		{file("a", "b/00/0"), file("b", "a/1"), file("c", "\x80"), file("d", "\x80\x00"), file("e", strings.Repeat("\xff", 300))},
		{file("a", strings.Repeat("x", api.MaxData)), file("b", strings.Repeat("x", api.MaxData-1)), file("c", strings.Repeat("x", api.MaxData))},
		{file(strings.Repeat("n", api.MaxName), "n"), file("o", "")},
		great(1),
	}
}

// noTrees are lists that are no trees, by why they are none.
func noTrees() map[api.Errno][][]api.Entry {
	return map[api.Errno][][]api.Entry{
		api.ErrForm: {
			{file("a/x", "")},
			{file("b", ""), file("a", "")},
			{file("a", ""), file("a", "")},
			{file("", "")},
			{file("A", "")},
			{file("a", ""), file("a/b", "")},
			{{Path: "a"}},
			{{Path: "a", Node: api.Node{Kind: api.Dir, Data: "x"}}},
			{{Path: "a", Node: api.Node{Kind: 3}}},
			{{Path: "a", Node: api.Node{Kind: -1}}},
			{file("a", strings.Repeat("x", api.MaxData+1))},
			{file("b", "right"), {Path: "c", Node: api.Node{Kind: math.MinInt}}},
		},
		api.ErrLimit: {append(great(2), file("z", "")), make([]api.Entry, api.MaxEntries+1)},
	}
}

// The chapter's example.
func TestExample(t *testing.T) {
	b := batch(t)
	one := []api.Entry{folder("a"), file("a/x", "hi"), file("b", "")}
	save(t, b, 2, one)
	wantContents(t, b, map[string]int{"hi": 1, "": 1})
	for bit := range bitsOf(b, 2) {
		turn(t, b, 2, bit)
		wantRefused(t, b, 2, api.ErrSum)
		turn(t, b, 2, bit)
	}
	wantTree(t, b, 2, one)
}

// 16.1, 16.2, 16.5: whatever tree is saved is loaded, by every spoke, also when the table is opened again.
func TestSaveLoad(t *testing.T) {
	for n, l := range someTrees() {
		d := disk.New()
		b := open(t, d).Begin()
		spoke := 1 + n%api.MaxSpokes
		save(t, b, spoke, l)
		for s := 1; s <= api.MaxSpokes; s++ {
			if s != spoke {
				wantRefused(t, b, s, api.ErrNone)
			}
		}
		wantTree(t, b, spoke, l)
		if e := b.Commit(); e != api.OK {
			t.Fatalf("Commit = %d", e)
		}
		if e := d.Restart(n); e != api.OK {
			t.Fatalf("Restart = %d", e)
		}
		wantTree(t, open(t, d).Begin(), spoke, l)
	}
}

// 16.1, 16.5: all spokes at once, each with its own tree, one saved in the place of the other.
func TestAllSpokes(t *testing.T) {
	b := batch(t)
	trees := someTrees()
	for round := range trees {
		want := map[string]int{}
		for s := 1; s <= api.MaxSpokes; s++ {
			l := trees[(round+s)%len(trees)]
			save(t, b, s, l)
			for _, entry := range l {
				if entry.Node.Kind == api.File {
					want[entry.Node.Data]++
				}
			}
		}
		for s := 1; s <= api.MaxSpokes; s++ {
			wantTree(t, b, s, trees[(round+s)%len(trees)])
		}
		wantContents(t, b, want)
	}
}

// Of another number each call answers ErrInput ahead of all else, and changes nothing.
func TestNoSpokes(t *testing.T) {
	b := batch(t)
	save(t, b, 1, []api.Entry{file("a", "x")})
	save(t, b, 6, []api.Entry{file("a", "x")})
	blob.Put(b, "held by none")
	before := all(b)
	for _, spoke := range noSpokes {
		wantRefused(t, b, spoke, api.ErrInput)
		if e := archive.Turn(b, spoke, 0); e != api.ErrInput {
			t.Errorf("Turn of %d = %d", spoke, e)
		}
		if e := archive.Forget(b, spoke); e != api.ErrInput {
			t.Errorf("Forget of %d = %d", spoke, e)
		}
		if e := archive.Save(b, spoke, nil); e != api.ErrInput {
			t.Errorf("Save of %d = %d", spoke, e)
		}
		for _, lists := range noTrees() {
			for _, l := range lists {
				if e := archive.Save(b, spoke, l); e != api.ErrInput {
					t.Errorf("Save of %d and no tree = %d", spoke, e)
				}
			}
		}
	}
	if !maps.Equal(all(b), before) {
		t.Error("a refused call has changed something")
	}
}

// 16.1: tree.Check's error; what was saved before stays, and no content comes to it.
func TestNoTrees(t *testing.T) {
	b := batch(t)
	save(t, b, 3, []api.Entry{file("a", "x")})
	before := all(b)
	for want, lists := range noTrees() {
		for _, l := range lists {
			for _, spoke := range []int{1, 3} {
				if e := archive.Save(b, spoke, l); e != want {
					t.Errorf("Save of %.100v = %d, want %d", l, e, want)
				}
			}
		}
	}
	if !maps.Equal(all(b), before) {
		t.Error("a refused Save has changed something")
	}
}

// 16.1: an archive is one value under a/ and the spoke's digits; besides those there are contents alone, and others' keys stay.
func TestKeys(t *testing.T) {
	others := []string{"", "A/1", "a", "a.", "a0", "aa/1", "c", "r/1", "v/1"}
	b := batch(t)
	for _, key := range others {
		b.Put(key, "of "+key)
	}
	want := append(slices.Clone(others), "b/00/0")
	for s := 1; s <= api.MaxSpokes; s++ {
		save(t, b, s, []api.Entry{folder("a"), file("b", "")})
		want = append(want, "a/"+strconv.Itoa(s))
	}
	turn(t, b, 4, 17)
	slices.Sort(want)
	if got := b.Keys(""); !slices.Equal(got, want) {
		t.Errorf("keys are %q, want %q", got, want)
	}
	for s := 1; s <= api.MaxSpokes; s++ {
		forget(t, b, s)
	}
	if got := b.Keys(""); !slices.Equal(got, others) {
		t.Errorf("keys are %q, want %q", got, others)
	}
	for _, key := range others {
		if v, _ := b.Get(key); v != "of "+key {
			t.Errorf("%q has %q", key, v)
		}
	}
}

// 16.1: the contents of the one before are released, each as often as it had them; what both have stays.
func TestSaveReleases(t *testing.T) {
	b := batch(t)
	save(t, b, 1, []api.Entry{file("a", "x"), file("b", "x"), file("c", "y"), file("d", "z")})
	wantContents(t, b, map[string]int{"x": 2, "y": 1, "z": 1})
	save(t, b, 2, []api.Entry{file("a", "x"), file("q", "z")})
	wantContents(t, b, map[string]int{"x": 3, "y": 1, "z": 2})
	save(t, b, 1, []api.Entry{file("a", "x"), file("e", "new")})
	wantContents(t, b, map[string]int{"x": 2, "z": 1, "new": 1})
	save(t, b, 1, []api.Entry{folder("a")})
	wantContents(t, b, map[string]int{"x": 1, "z": 1})
	save(t, b, 2, nil)
	wantContents(t, b, nil)
	wantTree(t, b, 1, []api.Entry{folder("a")})
	wantTree(t, b, 2, nil)
}

// 16.1: of one that can't be read nothing is released: its contents stay till a Forget, which counts anew.
func TestSaveOverUnreadable(t *testing.T) {
	b := batch(t)
	save(t, b, 1, []api.Entry{file("a", "x"), file("b", "y")})
	save(t, b, 2, []api.Entry{file("a", "x")})
	turn(t, b, 1, 99)
	save(t, b, 1, []api.Entry{file("a", "x"), file("c", "z")})
	wantTree(t, b, 1, []api.Entry{file("a", "x"), file("c", "z")})
	wantContents(t, b, map[string]int{"x": 3, "y": 1, "z": 1})
	forget(t, b, 5)
	wantContents(t, b, map[string]int{"x": 2, "z": 1})
	wantTree(t, b, 1, []api.Entry{file("a", "x"), file("c", "z")})
	wantTree(t, b, 2, []api.Entry{file("a", "x")})
}

// 16.1: what was saved keeps its contents' keys when it is saved again, so that nothing of it is written anew.
func TestSaveAgain(t *testing.T) {
	b := batch(t)
	var l []api.Entry
	for n, data := range alike(5) {
		l = append(l, file("f"+strconv.Itoa(n), data))
	}
	save(t, b, 1, l)
	before := all(b)
	save(t, b, 1, l)
	if !maps.Equal(all(b), before) {
		t.Error("what was saved again has changed")
	}
	save(t, b, 1, l[2:])
	save(t, b, 1, l[1:])
	wantTree(t, b, 1, l[1:])
}

// 16.1: what the one before held is released behind what comes in its place: a content of both stays where it was.
func TestSaveKeepsPlaces(t *testing.T) {
	data := alike(3)
	b := batch(t)
	save(t, b, 1, []api.Entry{file("a", data[0]), file("b", data[1])})
	save(t, b, 1, []api.Entry{file("a", data[2]), file("b", data[1]), file("c", data[0])})
	for n, want := range data {
		if got, e := blob.Get(b, "b/43/"+strconv.Itoa(n)); got != want || e != api.OK {
			t.Errorf("at %d stands %q, %d; want %q", n, got, e, want)
		}
	}
}

// 16.2: ErrNone, if there is no archive: at first, of others, and behind a Forget.
func TestLoadNone(t *testing.T) {
	b := batch(t)
	for s := 1; s <= api.MaxSpokes; s++ {
		wantRefused(t, b, s, api.ErrNone)
	}
	save(t, b, 4, nil)
	wantTree(t, b, 4, nil)
	wantRefused(t, b, 3, api.ErrNone)
	wantRefused(t, b, 5, api.ErrNone)
	forget(t, b, 4)
	wantRefused(t, b, 4, api.ErrNone)
}

// 16.2, 16.5: each single bit that turns is found, of all trees; the others are as they were; turned back it is read again.
func TestEachBit(t *testing.T) {
	other := []api.Entry{file("o", "hi"), file("p", "")}
	for _, l := range someTrees() {
		b := batch(t)
		save(t, b, 1, l)
		save(t, b, 2, other)
		before := all(b)
		step := 1 + bitsOf(b, 1)/4000
		for bit := 0; bit < bitsOf(b, 1); bit += step {
			turn(t, b, 1, bit)
			wantRefused(t, b, 1, api.ErrSum)
			turn(t, b, 1, bit)
		}
		turn(t, b, 1, 5)
		wantTree(t, b, 2, other)
		turn(t, b, 1, 5)
		wantTree(t, b, 1, l)
		if !maps.Equal(all(b), before) {
			t.Error("what was turned back isn't as it was")
		}
	}
}

// 16.5: the length of what is kept is found out too where it gets another one: trees of all sizes of paths and contents.
func TestEachBitOfAllLengths(t *testing.T) {
	b := batch(t)
	var l []api.Entry
	for n := range 40 {
		l = append(l, file("f"+strconv.Itoa(100+n), strings.Repeat("x", n)))
		save(t, b, 1, l)
		for bit := range min(64, bitsOf(b, 1)) {
			turn(t, b, 1, bit)
			wantRefused(t, b, 1, api.ErrSum)
			turn(t, b, 1, bit)
		}
		wantTree(t, b, 1, l)
	}
}

// 16.3: ErrNone, if there is none; else the bit is turned as frame.Turn does, whatever number it has, of the value alone.
func TestTurn(t *testing.T) {
	b := batch(t)
	for s := 1; s <= api.MaxSpokes; s++ {
		if e := archive.Turn(b, s, 3); e != api.ErrNone {
			t.Errorf("Turn of %d = %d", s, e)
		}
	}
	save(t, b, 3, []api.Entry{file("a", "x")})
	save(t, b, 4, []api.Entry{file("a", "x")})
	bits := bitsOf(b, 3)
	for _, bit := range []int{0, 1, 7, 8, bits - 1, bits, bits + 1, -1, -bits, -bits - 1, math.MinInt, math.MaxInt, 1 << 40} {
		want := all(b)
		want["a/3"] = frame.Turn(want["a/3"], bit)
		turn(t, b, 3, bit)
		if !maps.Equal(all(b), want) {
			t.Errorf("Turn of %d: not the bit alone", bit)
		}
		wantRefused(t, b, 3, api.ErrSum)
		turn(t, b, 3, bit)
		wantTree(t, b, 3, []api.Entry{file("a", "x")})
	}
	if e := archive.Turn(b, 2, 3); e != api.ErrNone {
		t.Errorf("Turn of none beside others = %d", e)
	}
	forget(t, b, 3)
	if e := archive.Turn(b, 3, 3); e != api.ErrNone {
		t.Errorf("Turn of a forgotten one = %d", e)
	}
}

// 16.3: what was turned twice at two places can't be read till both are turned back.
func TestTurnTwo(t *testing.T) {
	b := batch(t)
	l := []api.Entry{folder("a"), file("a/x", "hi")}
	save(t, b, 1, l)
	for one := 0; one < bitsOf(b, 1); one += 7 {
		for two := 3; two < bitsOf(b, 1); two += 11 {
			if one == two {
				continue
			}
			turn(t, b, 1, one)
			turn(t, b, 1, two)
			wantRefused(t, b, 1, api.ErrSum)
			turn(t, b, 1, one)
			wantRefused(t, b, 1, api.ErrSum)
			turn(t, b, 1, two)
			wantTree(t, b, 1, l)
		}
	}
}

// 16.2: bits that turn in a way that no sum tells end in ErrSum or in a tree, never in a list that is none.
func TestTurnUnseen(t *testing.T) {
	// The sum's divisor laid onto bytes doesn't change their sum.
	const divisor = uint64(0xedb88320)<<1 | 1
	b := batch(t)
	l := []api.Entry{folder("ab"), file("ab/x", "hi"), file("b", ""), file("c", "hi"), folder("d")}
	save(t, b, 1, l)
	for at := range bitsOf(b, 1) - 33 {
		flip := func() {
			for n := range 33 {
				if divisor>>n&1 == 1 {
					turn(t, b, 1, at+n)
				}
			}
		}
		flip()
		got, e := archive.Load(b, 1)
		if e != api.OK && (e != api.ErrSum || len(got) != 0) || e == api.OK && tree.Check(got) != api.OK {
			t.Errorf("%d: Load = %v, %d", at, got, e)
		}
		archive.Save(b, 2, got)
		archive.Forget(b, 2)
		save(t, b, 1, l)
	}
}

// 16.4: the archive is there no more; OK if there was none; contents that no readable archive holds are gone, those of the others are held as often as these hold them.
func TestForget(t *testing.T) {
	b := batch(t)
	for s := 1; s <= api.MaxSpokes; s++ {
		forget(t, b, s)
	}
	if len(b.Keys("")) != 0 {
		t.Errorf("keys are %q", b.Keys(""))
	}
	save(t, b, 1, []api.Entry{file("a", "x"), file("b", "y"), file("c", "x")})
	save(t, b, 2, []api.Entry{file("a", "x"), file("b", "z")})
	save(t, b, 6, []api.Entry{file("a", "z"), file("b", "")})
	blob.Put(b, "held by none")
	blob.Put(b, "x")
	forget(t, b, 4)
	wantContents(t, b, map[string]int{"x": 3, "y": 1, "z": 2, "": 1})
	forget(t, b, 1)
	wantRefused(t, b, 1, api.ErrNone)
	wantTree(t, b, 2, []api.Entry{file("a", "x"), file("b", "z")})
	wantTree(t, b, 6, []api.Entry{file("a", "z"), file("b", "")})
	wantContents(t, b, map[string]int{"x": 1, "z": 2, "": 1})
	forget(t, b, 6)
	wantContents(t, b, map[string]int{"x": 1, "z": 1})
	forget(t, b, 2)
	wantContents(t, b, nil)
	if len(b.Keys("")) != 0 {
		t.Errorf("keys are %q", b.Keys(""))
	}
}

// 16.4: of an archive that can't be read, forgotten or not, the contents are gone where no readable one holds them.
func TestForgetUnreadable(t *testing.T) {
	b := batch(t)
	save(t, b, 1, []api.Entry{file("a", "x"), file("b", "y")})
	save(t, b, 2, []api.Entry{file("a", "x"), file("b", "z")})
	save(t, b, 3, []api.Entry{file("a", "z"), file("b", "w")})
	turn(t, b, 1, 40)
	forget(t, b, 1)
	wantRefused(t, b, 1, api.ErrNone)
	wantContents(t, b, map[string]int{"x": 1, "z": 2, "w": 1})
	turn(t, b, 2, 40)
	forget(t, b, 5)
	wantRefused(t, b, 2, api.ErrSum)
	wantContents(t, b, map[string]int{"z": 1, "w": 1})
	turn(t, b, 2, 40)
	wantRefused(t, b, 2, api.ErrSum)
	forget(t, b, 2)
	wantTree(t, b, 3, []api.Entry{file("a", "z"), file("b", "w")})
}

// 16.5: turned back behind a Forget it is read again, where its contents are there still, and holds them as before.
func TestTurnedBackBehindForget(t *testing.T) {
	one := []api.Entry{file("a", "x"), folder("b"), file("b/c", "x")}
	two := []api.Entry{file("c", "x"), file("d", "y")}
	for _, places := range [][]int{{0}, {40}, {-1}, {-8}, {-1, -2}, {-3, -6, -8}, {1, 2, 3, 4}} {
		turnAll := func(b *table.Batch) {
			for _, bit := range places {
				turn(t, b, 1, bit)
			}
		}
		b := batch(t)
		save(t, b, 1, one)
		save(t, b, 2, two)
		turnAll(b)
		for range 4 {
			forget(t, b, 3)
			wantRefused(t, b, 1, api.ErrSum)
			wantContents(t, b, map[string]int{"x": 1, "y": 1})
		}
		turnAll(b)
		wantTree(t, b, 1, one)
		wantTree(t, b, 2, two)
		wantContents(t, b, map[string]int{"x": 3, "y": 1})
		turnAll(b)
		turnAll(b)
		wantTree(t, b, 1, one)
		wantContents(t, b, map[string]int{"x": 3, "y": 1})
		save(t, b, 2, nil)
		wantTree(t, b, 1, one)
		save(t, b, 1, nil)
		wantContents(t, b, nil)
	}
}

// 16.1, 16.5: turned back without its contents it can't be read, and holds none of those that come anew.
func TestTurnedBackTooLate(t *testing.T) {
	b := batch(t)
	one := []api.Entry{file("a", "x"), file("b", "y")}
	two := []api.Entry{file("c", "y")}
	save(t, b, 1, one)
	save(t, b, 2, two)
	turn(t, b, 1, 40)
	forget(t, b, 3)
	turn(t, b, 1, 40)
	wantRefused(t, b, 1, api.ErrSum)
	save(t, b, 3, []api.Entry{file("d", "x")})
	wantRefused(t, b, 1, api.ErrSum)
	save(t, b, 1, nil)
	wantTree(t, b, 1, nil)
	wantTree(t, b, 2, two)
	wantContents(t, b, map[string]int{"x": 1, "y": 1})
}

// 16.2: a content that went, and left its key to another one, makes the archive one that can't be read, not another tree.
func TestKeyOfAnother(t *testing.T) {
	data := alike(3)
	b := batch(t)
	save(t, b, 1, []api.Entry{file("a", data[0]), file("b", data[1])})
	turn(t, b, 1, 30)
	forget(t, b, 2)
	wantContents(t, b, nil)
	save(t, b, 2, []api.Entry{file("q", data[1]), file("r", data[2])})
	turn(t, b, 1, 30)
	wantRefused(t, b, 1, api.ErrSum)
	save(t, b, 1, []api.Entry{file("a", data[0])})
	wantTree(t, b, 1, []api.Entry{file("a", data[0])})
	wantTree(t, b, 2, []api.Entry{file("q", data[1]), file("r", data[2])})
	wantContents(t, b, map[string]int{data[0]: 1, data[1]: 1, data[2]: 1})
}

// Rule 4: what is handed in isn't changed, spare room included, and isn't kept; what is handed out is new each time.
func TestNothingShared(t *testing.T) {
	b := batch(t)
	want := []api.Entry{folder("a"), file("a/x", "hi"), file("b", "")}
	in := append(slices.Clone(want), file("spare", "room"), file("spare", "room"))
	save(t, b, 1, in[:3])
	if !slices.Equal(in[3:], []api.Entry{file("spare", "room"), file("spare", "room")}) || !slices.Equal(in[:3], want) {
		t.Error("Save has changed its list")
	}
	clear(in)
	wantTree(t, b, 1, want)
	out, _ := archive.Load(b, 1)
	clear(out[:cap(out)])
	wantTree(t, b, 1, want)
	one, _ := archive.Load(b, 1)
	two, _ := archive.Load(b, 1)
	one = append(one, file("more", ""))
	clear(one)
	if !slices.Equal(two, want) {
		t.Error("two answers share memory")
	}
}

// Nothing is done but in the batch, and nothing kept but in it: without a Commit all is as it was.
func TestBatchAlone(t *testing.T) {
	x := open(t, disk.New())
	b := x.Begin()
	save(t, b, 1, []api.Entry{file("a", "x")})
	wantRefused(t, x.Begin(), 1, api.ErrNone)
	if e := b.Commit(); e != api.OK {
		t.Fatalf("Commit = %d", e)
	}
	b = x.Begin()
	forget(t, b, 1)
	wantTree(t, x.Begin(), 1, []api.Entry{file("a", "x")})
	b = x.Begin()
	wantTree(t, b, 1, []api.Entry{file("a", "x")})
	wantRefused(t, b, 2, api.ErrNone)
	if e := b.Commit(); e != api.OK || len(x.Keys("")) != 2 {
		t.Errorf("Load has changed something: %d, %q", e, x.Keys(""))
	}
}

// kept is an archive as the chapter's words have it.
type kept struct {
	tree   []api.Entry
	turned map[int]bool // bits that are turned
	lost   bool         // it couldn't be read when contents were swept, and hasn't been turned back to where all of them are
	missed bool         // one of them has gone since: it may have come back under another key
}

func (k *kept) readable() bool {
	return k != nil && len(k.turned) == 0 && !k.lost
}

// model is what should be kept.
type model struct {
	archives map[int]*kept
	held     map[string]int
}

// hold has a tree's contents held more often, or less.
func (m *model) hold(l []api.Entry, times int) {
	for _, entry := range l {
		if entry.Node.Kind != api.File {
			continue
		}
		m.held[entry.Node.Data] += times
		if m.held[entry.Node.Data] == 0 {
			delete(m.held, entry.Node.Data)
		}
	}
}

func (m *model) save(spoke int, l []api.Entry) {
	m.hold(l, 1)
	if k := m.archives[spoke]; k.readable() {
		m.hold(k.tree, -1)
	}
	m.archives[spoke] = &kept{tree: l, turned: map[int]bool{}}
}

func (m *model) turn(spoke, bit int) {
	k := m.archives[spoke]
	if k.turned[bit] {
		delete(k.turned, bit)
	} else {
		k.turned[bit] = true
	}
}

// gone tells whether a content of a tree isn't there.
func (m *model) gone(l []api.Entry) bool {
	return slices.ContainsFunc(l, func(entry api.Entry) bool {
		return entry.Node.Kind == api.File && m.held[entry.Node.Data] == 0
	})
}

// turnedBack has a lost archive hold its contents again, if it can be read; where they never went, it must be.
func (m *model) turnedBack(spoke int, e api.Errno) {
	if k := m.archives[spoke]; k.lost && len(k.turned) == 0 && !m.gone(k.tree) && (e == api.OK || !k.missed) {
		m.hold(k.tree, 1)
		k.lost, k.missed = false, false
	}
}

func (m *model) forget(spoke int) {
	delete(m.archives, spoke)
	m.held = map[string]int{}
	for _, k := range m.archives {
		if k.readable() {
			m.hold(k.tree, 1)
		} else {
			k.lost = true
		}
	}
}

func (m *model) want(t *testing.T, b *table.Batch) {
	t.Helper()
	for _, k := range m.archives {
		k.missed = k.lost && (k.missed || m.gone(k.tree))
	}
	for s := 1; s <= api.MaxSpokes; s++ {
		switch k := m.archives[s]; {
		case k == nil:
			wantRefused(t, b, s, api.ErrNone)
		case k.readable():
			wantTree(t, b, s, k.tree)
		default:
			wantRefused(t, b, s, api.ErrSum)
		}
	}
	wantContents(t, b, m.held)
}

// someTree is a small tree whose files have few contents, some of them of keys of one kind.
func someTree(r *rand.Rand, data []string) []api.Entry {
	var out []api.Entry
	for n := range r.Intn(7) {
		name := string([]byte{'a' + byte(n)})
		switch r.Intn(4) {
		case 0:
			out = append(out, file(name, data[r.Intn(len(data))]))
		case 1:
			out = append(out, folder(name), file(name+"/x", data[r.Intn(len(data))]))
		case 2:
			out = append(out, folder(name))
		}
	}
	return out
}

// someBit is a bit to turn: mostly one that is turned, and never so many that none of them is found.
func someBit(r *rand.Rand, turned map[int]bool, bits int) int {
	for bit := range bits {
		if turned[bit] && (len(turned) > 2 || r.Intn(3) > 0) {
			return bit
		}
	}
	// The front and the back have more turned than the rest.
	return []int{r.Intn(bits), r.Intn(8), bits - 1 - r.Intn(8)}[r.Intn(3)]
}

// 16.1 to 16.5: scripts of saves, turns and forgets, held against the words at each step; now and then committed and opened again.
func TestScripts(t *testing.T) {
	data := append(alike(4), "", "x", "hi", strings.Repeat("long", 40))
	for seed := range 120 {
		r := rand.New(rand.NewSource(int64(seed)))
		spokes := 2 + seed%(api.MaxSpokes-1)
		d := disk.New()
		b := open(t, d).Begin()
		m := &model{archives: map[int]*kept{}, held: map[string]int{}}
		for range 100 {
			spoke := 1 + r.Intn(spokes)
			k := m.archives[spoke]
			switch n := r.Intn(20); {
			case n < 6:
				l := someTree(r, data)
				m.save(spoke, l)
				save(t, b, spoke, l)
			case n < 16 && k != nil:
				bit := someBit(r, k.turned, bitsOf(b, spoke))
				m.turn(spoke, bit)
				turn(t, b, spoke, bit)
				_, e := archive.Load(b, spoke)
				m.turnedBack(spoke, e)
			case n < 18:
				m.forget(spoke)
				forget(t, b, spoke)
			case n == 18:
				if e := b.Commit(); e != api.OK {
					t.Fatalf("Commit = %d", e)
				}
				b = open(t, d).Begin()
			}
			m.want(t, b)
		}
	}
}

// Rule 1: every call ends without a panic, whatever it is handed.
func TestNoPanic(t *testing.T) {
	r := rand.New(rand.NewSource(7))
	numbers := append([]int{1, 2, 6}, noSpokes...)
	lists := someTrees()[:11]
	for _, more := range noTrees() {
		lists = append(lists, more...)
	}
	b := batch(t)
	for range 600 {
		spoke := numbers[r.Intn(len(numbers))]
		switch r.Intn(4) {
		case 0:
			archive.Save(b, spoke, lists[r.Intn(len(lists))])
		case 1:
			archive.Load(b, spoke)
		case 2:
			archive.Turn(b, spoke, numbers[r.Intn(len(numbers))])
		case 3:
			archive.Forget(b, spoke)
		}
	}
}

// 16.2: a value that no Save has put can't be read, and no call breaks off over it.
func TestStrangeValues(t *testing.T) {
	for _, value := range []string{"", "\x00", "\xff", "\x01", "\x00\x00", strings.Repeat("\xff", 30)} {
		b := batch(t)
		b.Put("a/1", value)
		wantRefused(t, b, 1, api.ErrSum)
		turn(t, b, 1, 3)
		wantRefused(t, b, 1, api.ErrSum)
		forget(t, b, 2)
		wantRefused(t, b, 1, api.ErrSum)
		forget(t, b, 1)
		wantRefused(t, b, 1, api.ErrNone)
		b.Put("a/1", value)
		save(t, b, 1, []api.Entry{file("a", "x")})
		wantTree(t, b, 1, []api.Entry{file("a", "x")})
	}
}
