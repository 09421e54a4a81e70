package disk_test

import (
	"math"
	"slices"
	"strings"
	"testing"

	"tether/api"
	"tether/disk"
)

// must does calls that may not be refused.
func must(t *testing.T, d *disk.Disk, calls ...call) {
	t.Helper()
	for _, c := range calls {
		if e := c.on(d); e != api.OK {
			t.Fatalf("%v = %d", c, e)
		}
	}
}

func want(t *testing.T, d *disk.Disk, c call, e api.Errno) {
	t.Helper()
	if got := c.on(d); got != e {
		t.Errorf("%v = %d, want %d", c, got, e)
	}
}

func mkdir(p string) call               { return call{word: "Mkdir", p: p} }
func write(p, data string) call         { return call{word: "Write", p: p, data: data} }
func appended(p, data string) call      { return call{word: "Append", p: p, data: data} }
func synced(p string) call              { return call{word: "Sync", p: p} }
func renamed(from, to string) call      { return call{word: "Rename", p: from, to: to} }
func removed(p string) call             { return call{word: "Remove", p: p} }
func rot(p string, bit int) call        { return call{word: "Rot", p: p, n: bit} }
func restart(loss int) call             { return call{word: "Restart", n: loss} }
func limited(v string, n int) call      { return call{word: "Limit", p: v, n: n} }
func armed(n int) call                  { return call{word: "Arm", n: n} }
func bytesOf(data string, n int) string { return strings.Repeat(data, n) }

// made is a disk with the folders v, v/d and w, the file v/a of three bytes, synced, and v/d/x of four, synced.
func made(t *testing.T) *disk.Disk {
	t.Helper()
	d := disk.New()
	must(t, d, mkdir("v"), mkdir("v/d"), mkdir("w"), write("v/a", "one"), synced("v/a"), write("v/d/x", "four"), synced("v/d/x"))
	return d
}

const madeSteps = 7

func wantRead(t *testing.T, d *disk.Disk, p, data string, e api.Errno) {
	t.Helper()
	if got, gotE := d.Read(p); got != data || gotE != e {
		t.Errorf("Read(%q) = %q, %d; want %q, %d", p, got, gotE, data, e)
	}
}

func wantList(t *testing.T, d *disk.Disk, p string, list ...string) {
	t.Helper()
	if got := d.List(p); !slices.Equal(got, list) {
		t.Errorf("List(%q) = %q, want %q", p, got, list)
	}
}

// told is all that a disk tells at some paths.
type told struct {
	paths       []string
	kinds, used []int
	stamps      []int
	datas       []string
	lists       [][]string
	steps       int
}

func tell(d *disk.Disk) told {
	out := told{steps: d.Steps()}
	for _, p := range []string{"", "v", "w", "u", "v/a", "v/b", "v/d", "v/d/x", "v/d/y", "w/a"} {
		data, _ := d.Read(p)
		out.paths = append(out.paths, p)
		out.kinds = append(out.kinds, d.Kind(p))
		out.used = append(out.used, d.Used(p))
		out.stamps = append(out.stamps, d.Stamp(p))
		out.datas = append(out.datas, data)
		out.lists = append(out.lists, d.List(p))
	}
	return out
}

func wantSame(t *testing.T, what any, got, want told) {
	t.Helper()
	same := slices.Equal(got.kinds, want.kinds) && slices.Equal(got.used, want.used) && slices.Equal(got.stamps, want.stamps) && slices.Equal(got.datas, want.datas) && got.steps == want.steps
	for i := range got.lists {
		same = same && slices.Equal(got.lists[i], want.lists[i])
	}
	if !same {
		t.Errorf("%v has changed what is told: %v, want %v", what, got, want)
	}
}

// 5.1
func TestNew(t *testing.T) {
	d := disk.New()
	wantList(t, d, "")
	if d.Steps() != 0 || d.Down() || d.Used("v") != 0 || d.Kind("v") != api.None || d.Kind("") != api.None {
		t.Errorf("a new disk has %d steps, %d bytes, a volume of kind %d, down %v", d.Steps(), d.Used("v"), d.Kind("v"), d.Down())
	}
	for range 3000 {
		must(t, d, mkdir("v"))
	}
	if other := disk.New(); other.Kind("v") != api.None || other.Steps() != 0 {
		t.Errorf("another disk has what was done on the first one")
	}
}

// 5.1
func TestNil(t *testing.T) {
	var d *disk.Disk
	for _, c := range []call{mkdir("v"), mkdir(""), write("v/a", "x"), write("", ""), appended("v/a", "x"), synced("v/a"), renamed("v/a", "v/b"), removed("v"), rot("v/a", 1), restart(1), limited("v", 1), limited("v", -1), limited("", 1)} {
		want(t, d, c, api.ErrInput)
	}
	d.Arm(0)
	d.Arm(-1)
	wantRead(t, d, "v/a", "", api.ErrInput)
	wantList(t, d, "")
	wantList(t, d, "v")
	if d.Steps() != 0 || d.Down() || d.Kind("v") != api.None || d.Stamp("v/a") != 0 || d.Used("v") != 0 {
		t.Errorf("a nil disk tells something")
	}
}

// 5.2
func TestLimitRefusals(t *testing.T) {
	d := made(t)
	for _, v := range []string{"", "/", "v/a", "v/", "/v", "V", "v.", "v ", "\xff", strings.Repeat("a", api.MaxName+1)} {
		want(t, d, limited(v, 3), api.ErrPath)
		want(t, d, limited(v, -1), api.ErrInput)
	}
	for _, n := range []int{-1, -2, math.MinInt} {
		want(t, d, limited("v", n), api.ErrInput)
	}
	must(t, d, write("v/b", bytesOf("x", 10000)))
	must(t, d, limited(strings.Repeat("a", api.MaxName), 0), limited("v", 0), limited("v", math.MaxInt), write("v/c", bytesOf("x", 10000)))
}

// 5.2: a limit is the volume's whether it is there or not, and stands till it is set anew.
func TestLimitStands(t *testing.T) {
	d := disk.New()
	must(t, d, limited("v", 2), mkdir("v"))
	want(t, d, write("v/a", "123"), api.ErrFull)
	must(t, d, removed("v"), mkdir("v"))
	want(t, d, write("v/a", "123"), api.ErrFull)
	want(t, d, limited("v", -1), api.ErrInput)
	want(t, d, write("v/a", "123"), api.ErrFull)
	must(t, d, limited("v", 3), write("v/a", "123"))
	must(t, d, mkdir("w"), mkdir("v1"), write("w/a", "1234"), write("v1/a", "1234"))
	must(t, d, armed(0))
	want(t, d, mkdir("v"), api.ErrDown)
	must(t, d, limited("v", 4), restart(0))
	want(t, d, write("v/b", "12345"), api.ErrFull)
	must(t, d, write("v/a", "1234"))
}

// 5.2: so many steps are done from now on, and then the machine stops.
func TestArm(t *testing.T) {
	for _, n := range []int{0, 1, 2, 3, 5, 1500} {
		d := made(t)
		must(t, d, armed(n))
		for i := range n {
			must(t, d, write("v/b", bytesOf("x", i)))
		}
		if d.Down() {
			t.Fatalf("armed by %d: down behind as many steps", n)
		}
		ahead := tell(d)
		want(t, d, write("v/b", "more"), api.ErrDown)
		if !d.Down() || d.Steps() != madeSteps+n {
			t.Errorf("armed by %d: down %v, %d steps", n, d.Down(), d.Steps())
		}
		must(t, d, restart(-1))
		if d.Down() || d.Steps() != madeSteps+n || ahead.steps != d.Steps() {
			t.Errorf("armed by %d: down %v behind a restart, %d steps", n, d.Down(), d.Steps())
		}
		for range 20 {
			must(t, d, mkdir("v"))
		}
	}
}

// 5.2: the last number that Arm was told holds, from then on; below 0 there is no stop.
func TestArmAnew(t *testing.T) {
	d := made(t)
	for _, n := range []int{-1, -2, math.MinInt, math.MaxInt} {
		must(t, d, armed(0), armed(n))
		for range 20 {
			must(t, d, mkdir("v"))
		}
	}
	must(t, d, armed(2), mkdir("v"), armed(2), mkdir("v"), mkdir("v"))
	want(t, d, mkdir("v"), api.ErrDown)
	must(t, d, armed(-1))
	want(t, d, mkdir("v"), api.ErrDown)
	must(t, d, armed(5))
	want(t, d, mkdir("v"), api.ErrDown)
	if !d.Down() {
		t.Errorf("Arm has let the machine go on")
	}
	must(t, d, restart(0))
	for range 20 {
		must(t, d, mkdir("v"))
	}
}

// 5.2, Words: a step is a call of six that isn't refused; all else is none.
func TestSteps(t *testing.T) {
	d := made(t)
	for i, c := range []call{mkdir("u"), mkdir("u"), write("u/a", ""), write("u/a", "x"), appended("u/a", ""), synced("u/a"), synced("u/a"), renamed("u/a", "u/a"), renamed("u/a", "u/b"), removed("u/b"), removed("u")} {
		must(t, d, c)
		if d.Steps() != madeSteps+i+1 {
			t.Errorf("%v: %d steps, want %d", c, d.Steps(), madeSteps+i+1)
		}
	}
	done := d.Steps()
	must(t, d, armed(3), rot("v/a", 0), rot("v/a", 0), rot("v/a", 0), rot("v/a", 0), limited("v", 7))
	wantRead(t, d, "v/a", "one", api.OK)
	for _, c := range []call{mkdir("x/y"), write("v", ""), write("v/b", "12345678"), appended("v/b", ""), synced("v/d"), renamed("v/b", "v/c"), removed("v")} {
		if e := c.on(d); e == api.OK || e == api.ErrDown {
			t.Errorf("%v = %d", c, e)
		}
	}
	if d.Steps() != done || d.Down() {
		t.Errorf("%d steps, want %d; down %v", d.Steps(), done, d.Down())
	}
	must(t, d, mkdir("v"), mkdir("v"), mkdir("v"))
	want(t, d, mkdir("v"), api.ErrDown)
	must(t, d, restart(4))
	if d.Steps() != done+3 {
		t.Errorf("%d steps behind a restart, want %d", d.Steps(), done+3)
	}
}

// stepCalls are calls of the six that aren't refused on the disk of made.
func stepCalls() []call {
	return []call{mkdir("u"), mkdir("v"), mkdir("v/d/e"), write("v/a", "x"), write("v/b", ""), appended("v/a", "x"), synced("v/a"), renamed("v/a", "v/b"), renamed("v/a", "v/d/x"), renamed("v/a", "v/a"), renamed("v/a", "w/a"), removed("v/a"), removed("w")}
}

// refusedCalls are calls of the six that are refused on the disk of made, w with a limit of 2 bytes and v of 7, with the error.
func refusedCalls() map[call]api.Errno {
	long := strings.Repeat("a", api.MaxName+1)
	out := map[call]api.Errno{
		mkdir("x/y"): api.ErrNone, mkdir("v/a/b"): api.ErrNone, mkdir("v/e/f"): api.ErrNone, mkdir("v/a"): api.ErrDir, mkdir("v/d/x"): api.ErrDir,
		write("x/y", "1"): api.ErrNone, write("v/a/b", "1"): api.ErrNone, write("v/e/f", "12345"): api.ErrNone, write("w/e/f", "12345"): api.ErrNone,
		write("v/d", "1"): api.ErrDir, write("v/d", "12345678"): api.ErrDir, write("v/b", "1"): api.ErrFull, write("v/a", "four"): api.ErrFull, write("w/a", "123"): api.ErrFull,
		appended("x/y", "1"): api.ErrNone, appended("v/b", "12345678"): api.ErrNone, appended("v/a/b", ""): api.ErrNone, appended("v/d", "12345678"): api.ErrDir, appended("v/a", "1"): api.ErrFull,
		synced("x/y"): api.ErrNone, synced("v/b"): api.ErrNone, synced("v/a/b"): api.ErrNone, synced("v/d"): api.ErrDir,
		renamed("v/b", "v/c"): api.ErrNone, renamed("v/b", "v/b"): api.ErrNone, renamed("v/b", "v/d"): api.ErrNone, renamed("v/a", "x/y"): api.ErrNone, renamed("v/a", "v/a/b"): api.ErrNone, renamed("v/d", "x/y"): api.ErrNone, renamed("v/d", "v/d/x/y"): api.ErrNone,
		renamed("v/d", "v/e"): api.ErrDir, renamed("v/d", "v/d"): api.ErrDir, renamed("v/d", "v/a"): api.ErrDir, renamed("v/a", "v/d"): api.ErrDir, renamed("v/d", "v/d/e"): api.ErrDir, renamed("v/a", "w/a"): api.ErrFull,
		removed("x"): api.ErrNone, removed("v/b"): api.ErrNone, removed("v/a/b"): api.ErrNone, removed("v"): api.ErrDir, removed("v/d"): api.ErrDir,
	}
	for _, p := range []string{"", "/", "v/", "/v", "v//a", "v/A", "V/a", "v/.", "v/\xff", "v/a\n", "v/" + long, long, "v/a/b/c/d/e/f", strings.Repeat("/", 10)} {
		for _, c := range []call{mkdir(p), write(p, "x"), appended(p, "x"), synced(p), renamed(p, "v/b"), renamed("v/a", p), renamed(p, p), removed(p)} {
			out[c] = api.ErrPath
		}
	}
	for _, p := range []string{"v", "w", "x"} {
		for _, c := range []call{write(p, "x"), appended(p, "x"), synced(p), renamed(p, "v/b"), renamed("v/a", p), renamed("v/b", p), renamed(p, p)} {
			out[c] = api.ErrPath
		}
	}
	return out
}

func limitedDisk(t *testing.T) *disk.Disk {
	d := made(t)
	must(t, d, limited("v", 7), limited("w", 2))
	return d
}

// 5.3: each refusal, with nothing changed; armed or not; of a machine that has stopped, ErrDown comes first.
func TestRefusals(t *testing.T) {
	for c, e := range refusedCalls() {
		d := limitedDisk(t)
		ahead := tell(d)
		want(t, d, c, e)
		wantSame(t, c, tell(d), ahead)
		must(t, d, armed(0))
		want(t, d, c, e)
		wantSame(t, c, tell(d), ahead)
		if d.Down() {
			t.Errorf("%v has stopped the machine", c)
		}
		want(t, d, mkdir("v"), api.ErrDown)
		want(t, d, c, api.ErrDown)
		must(t, d, restart(3))
		wantSame(t, c, tell(d), ahead)
	}
}

// 5.3, 5.6: a call at which the machine stops has done nothing, and neither have those behind it.
func TestStop(t *testing.T) {
	for _, c := range stepCalls() {
		d := made(t)
		ahead := tell(d)
		must(t, d, armed(0))
		want(t, d, c, api.ErrDown)
		for _, next := range stepCalls() {
			want(t, d, next, api.ErrDown)
		}
		want(t, d, rot("v/a", 1), api.ErrDown)
		must(t, d, restart(1))
		wantSame(t, c, tell(d), ahead)
		must(t, d, c)
	}
}

// 5.3: paths of up to api.MaxDeep + 1 names may be.
func TestDeep(t *testing.T) {
	d := disk.New()
	p := "v"
	must(t, d, mkdir(p))
	for range api.MaxDeep - 1 {
		p += "/" + strings.Repeat("a", api.MaxName)
		must(t, d, mkdir(p))
	}
	must(t, d, mkdir(p+"/d"), write(p+"/a", "x"), appended(p+"/a", "y"), synced(p+"/a"), rot(p+"/a", 0), renamed(p+"/a", p+"/b"))
	for _, c := range []call{mkdir(p + "/d/e"), write(p+"/d/e", ""), appended(p+"/d/e", ""), synced(p + "/d/e"), rot(p+"/d/e", 0), renamed(p+"/b", p+"/d/e"), renamed(p+"/d/e", p+"/b"), removed(p + "/d/e")} {
		want(t, d, c, api.ErrPath)
	}
	must(t, d, removed(p+"/d"), removed(p+"/b"), removed(p))
}

// 5.3
func TestMkdir(t *testing.T) {
	d := made(t)
	ahead := tell(d)
	ahead.steps += 2
	must(t, d, mkdir("v"), mkdir("v/d"))
	wantSame(t, "Mkdir of what is there", tell(d), ahead)
	must(t, d, mkdir("v/d/y"), mkdir("u"))
	if d.Kind("v/d/y") != api.Dir || d.Kind("u") != api.Dir || d.Stamp("u") != 0 {
		t.Errorf("Mkdir has made %d and %d", d.Kind("v/d/y"), d.Kind("u"))
	}
	wantList(t, d, "", "u", "v", "w")
	wantList(t, d, "v/d", "v/d/x", "v/d/y")
}

// 5.3
func TestWriteAndAppend(t *testing.T) {
	d := made(t)
	all := "\x00\xff\n/" + bytesOf("x", 10000)
	must(t, d, write("v/b", ""), write("v/a", all), appended("v/b", "one"), appended("v/b", ""), appended("v/b", "\x00two"))
	wantRead(t, d, "v/a", all, api.OK)
	wantRead(t, d, "v/b", "one\x00two", api.OK)
	must(t, d, write("v/b", "x"))
	wantRead(t, d, "v/b", "x", api.OK)
	wantList(t, d, "v", "v/a", "v/b", "v/d")
}

// 5.3
func TestRename(t *testing.T) {
	d := made(t)
	must(t, d, renamed("v/a", "v/b"))
	wantRead(t, d, "v/a", "", api.ErrNone)
	wantRead(t, d, "v/b", "one", api.OK)
	must(t, d, renamed("v/b", "v/d/x"))
	wantRead(t, d, "v/d/x", "one", api.OK)
	wantList(t, d, "v", "v/d")
	must(t, d, renamed("v/d/x", "v/d/x"))
	wantRead(t, d, "v/d/x", "one", api.OK)
	must(t, d, renamed("v/d/x", "w/x"))
	if d.Used("v") != 0 || d.Used("w") != 3 || d.Kind("v/d/x") != api.None || d.Kind("w/x") != api.File {
		t.Errorf("Rename into another volume: %d and %d used", d.Used("v"), d.Used("w"))
	}
}

// 5.3: what is taken away leaves nothing, and what comes there again begins with nothing kept.
func TestRemove(t *testing.T) {
	for loss := range 50 {
		d := made(t)
		must(t, d, removed("v/d/x"), removed("v/d"), removed("w"))
		wantList(t, d, "", "v")
		wantList(t, d, "v", "v/a")
		if d.Used("v") != 3 || d.Stamp("v/d/x") != 0 {
			t.Errorf("Remove has left %d bytes, stamp %d", d.Used("v"), d.Stamp("v/d/x"))
		}
		must(t, d, removed("v/a"), write("v/a", "new"), restart(loss))
		if got, _ := d.Read("v/a"); !strings.HasPrefix("new", got) {
			t.Errorf("loss %d: a new file holds %q", loss, got)
		}
	}
}

// 5.3: a call is full if its volume becomes fuller, and fuller than its limit.
func TestFull(t *testing.T) {
	d := made(t)
	must(t, d, limited("v", 8), write("v/a", "four"))
	want(t, d, write("v/a", "12345"), api.ErrFull)
	want(t, d, appended("v/a", "1"), api.ErrFull)
	want(t, d, write("v/b", "1"), api.ErrFull)
	must(t, d, write("v/b", ""), appended("v/a", ""), write("v/a", "1234"))
	must(t, d, limited("v", 0), write("v/a", "4321"), write("v/a", "321"), appended("v/a", ""), mkdir("v/e"), write("v/c", ""))
	must(t, d, renamed("v/a", "v/a"), renamed("v/a", "v/e/a"), renamed("v/e/a", "v/d/x"), synced("v/d/x"))
	wantRead(t, d, "v/d/x", "321", api.OK)
	must(t, d, limited("w", 2))
	want(t, d, renamed("v/d/x", "w/x"), api.ErrFull)
	must(t, d, write("w/x", "1"), limited("w", 3), renamed("v/d/x", "w/x"))
	want(t, d, write("w/y", "1"), api.ErrFull)
	must(t, d, write("v/d/y", ""), renamed("v/d/y", "w/x"), limited("w", 0), mkdir("u"), write("u/a", "12"))
	want(t, d, renamed("u/a", "w/x"), api.ErrFull)
	want(t, d, renamed("u/a", "v/d/y"), api.ErrFull)
	must(t, d, limited("w", 2), renamed("u/a", "w/x"), write("u/a", "21"), limited("w", 0), renamed("u/a", "w/x"))
	wantRead(t, d, "w/x", "21", api.OK)
}

// 5.4
func TestRot(t *testing.T) {
	d := made(t)
	must(t, d, armed(0), rot("v/a", 0), rot("v/a", 9), rot("v/a", 7+24), rot("v/a", -1))
	wantRead(t, d, "v/a", "\xeel\xe5", api.OK)
	must(t, d, rot("v/a", math.MinInt), rot("v/a", math.MaxInt), armed(-1), write("v/b", ""), rot("v/b", 5))
	wantRead(t, d, "v/b", "", api.OK)
	for p, e := range map[string]api.Errno{"": api.ErrPath, "v": api.ErrPath, "x": api.ErrPath, "V/a": api.ErrPath, "v/x": api.ErrNone, "x/y": api.ErrNone, "v/a/b": api.ErrNone, "v/d": api.ErrDir} {
		ahead := tell(d)
		want(t, d, rot(p, 1), e)
		wantSame(t, rot(p, 1), tell(d), ahead)
	}
	must(t, d, armed(0))
	want(t, d, mkdir("v"), api.ErrDown)
	want(t, d, rot("v/a", 1), api.ErrDown)
	want(t, d, rot("", 1), api.ErrDown)
}

// 5.4: Rot turns a bit of what is kept too, by its own length, and leaves the file loose or not as it was.
func TestRotKept(t *testing.T) {
	d := made(t)
	must(t, d, write("v/a", "more"), rot("v/a", 24), restart(lossOf(t, 1, 6, 0)))
	wantRead(t, d, "v/a", "nne", api.OK)
	must(t, d, rot("v/a", 0), restart(1))
	wantRead(t, d, "v/a", "one", api.OK)
	must(t, d, appended("v/a", "two"), rot("v/a", 24), restart(lossOf(t, 1, 4, 0)))
	wantRead(t, d, "v/a", "one", api.OK)
	must(t, d, appended("v/a", "two"), rot("v/a", 0), restart(lossOf(t, 1, 4, 1)))
	wantRead(t, d, "v/a", "nnet", api.OK)
}

// lossOf answers a loss of which the loose file at place i has this rest.
func lossOf(t *testing.T, i, by, rest int) int {
	t.Helper()
	for loss := range 10000 {
		if mixed(loss, i)%uint64(by) == uint64(rest) {
			return loss
		}
	}
	t.Fatalf("no loss has the rest %d by %d", rest, by)
	return 0
}

// 5.4: mix, by numbers that are known of it, and how many bytes it leaves.
func TestMix(t *testing.T) {
	for _, c := range []struct {
		loss int
		list []uint64
	}{
		{1234567, []uint64{6457827717110365317, 3203168211198807973, 9817491932198370423, 4593380528125082431, 16408922859458223821}},
		{0, []uint64{0xe220a8397b1dcdaf, 0x6e789e6aa1b965f4, 0x06c45d188009454f, 0xf88bb8a8724c81ec, 0x1b39896a51a8749b}},
		{-0x61c8864680b583eb, []uint64{0x6e789e6aa1b965f4, 0x06c45d188009454f, 0xf88bb8a8724c81ec, 0x1b39896a51a8749b}},
		{0x61c8864680b583eb, []uint64{0, 0xe220a8397b1dcdaf, 0x6e789e6aa1b965f4}},
	} {
		for i, m := range c.list {
			if got := mixed(c.loss, i+1); got != m {
				t.Errorf("the tests' own mix(%d, %d) = %d, want %d", c.loss, i+1, got, m)
			}
		}
		for _, size := range []int{1, 2, 3, 5, 16, 97, 1000, 4095} {
			wantLosses(t, c.loss, size, c.list)
		}
	}
}

// wantLosses holds what a loss leaves of files of one size against what mix says of each.
func wantLosses(t *testing.T, loss, size int, list []uint64) {
	t.Helper()
	d := disk.New()
	must(t, d, mkdir("v"), mkdir("w"))
	for i := range list {
		fresh, grown := "v/"+string(rune('a'+i)), "w/"+string(rune('a'+i))
		must(t, d, write(fresh, bytesOf("x", size)), write(grown, "kept"), synced(grown))
	}
	must(t, d, restart(loss))
	for i, m := range list {
		n := int(m % uint64(size+2))
		wantRead(t, d, "v/"+string(rune('a'+i)), bytesOf("x", max(n-1, 0)), api.OK)
	}
	for i := range list {
		must(t, d, appended("w/"+string(rune('a'+i)), bytesOf("x", size)))
	}
	must(t, d, restart(loss))
	for i, m := range list {
		n := int(m % uint64(size+1))
		wantRead(t, d, "w/"+string(rune('a'+i)), "kept"+bytesOf("x", n), api.OK)
	}
}

// 5.4: loose files have their turns in the order of their paths, volumes or not, however they were made; settled ones have none.
func TestTurns(t *testing.T) {
	d := disk.New()
	must(t, d, mkdir("w"), mkdir("v"), mkdir("v/d"), mkdir("v_"), mkdir("v0"))
	order := []string{"v/a", "v/d/a", "v/d_", "v0/a", "v_/a", "w/a"}
	for _, i := range []int{3, 0, 5, 1, 4, 2} {
		must(t, d, write(order[i], bytesOf("x", 20+i)), write("v/d0", "settled"), synced("v/d0"), write("v/z", ""), removed("v/z"))
	}
	stamps := 3 * len(order)
	must(t, d, restart(77))
	for i, p := range order {
		n := int(mixed(77, i+1) % uint64(20+i+2))
		wantRead(t, d, p, bytesOf("x", max(n-1, 0)), api.OK)
		if d.Stamp(p) != stamps+i+1 {
			t.Errorf("the stamp of %s is %d, want %d", p, d.Stamp(p), stamps+i+1)
		}
	}
	wantRead(t, d, "v/d0", "settled", api.OK)
	ahead := tell(d)
	must(t, d, restart(77), restart(78))
	wantSame(t, "Restart of what is settled", tell(d), ahead)
}

// 5.5
func TestRead(t *testing.T) {
	d := made(t)
	wantRead(t, d, "v/a", "one", api.OK)
	for _, p := range []string{"v", "v/d", "w"} {
		wantRead(t, d, p, "", api.ErrDir)
	}
	for _, p := range []string{"", "/", "x", "v/", "/v", "v/b", "v/a/b", "v//a", "V", "v/a/", "\xff", "v/a/b/c/d/e/f/g"} {
		wantRead(t, d, p, "", api.ErrNone)
		if d.Kind(p) != api.None || d.Stamp(p) != 0 {
			t.Errorf("%q has the kind %d, the stamp %d", p, d.Kind(p), d.Stamp(p))
		}
	}
	must(t, d, armed(0))
	want(t, d, mkdir("v"), api.ErrDown)
	for _, p := range []string{"", "v", "v/a", "v/b", "\xff"} {
		wantRead(t, d, p, "", api.ErrDown)
	}
}

// 5.5: Kind, List, Stamp and Used are answered of a machine that has stopped too.
func TestToldWhileDown(t *testing.T) {
	d := made(t)
	must(t, d, armed(0))
	want(t, d, mkdir("v"), api.ErrDown)
	if d.Kind("v") != api.Dir || d.Kind("v/a") != api.File || d.Stamp("v/a") != 1 || d.Used("v") != 7 || d.Steps() != madeSteps {
		t.Errorf("kinds %d, %d, stamp %d, used %d, %d steps", d.Kind("v"), d.Kind("v/a"), d.Stamp("v/a"), d.Used("v"), d.Steps())
	}
	wantList(t, d, "", "v", "w")
	wantList(t, d, "v", "v/a", "v/d")
}

// 5.5
func TestList(t *testing.T) {
	d := disk.New()
	must(t, d, mkdir("w"), mkdir("v"), mkdir("v0"))
	names := []string{"b", "a", "a_", "a0", "_", "0", "z", "9"}
	for i, name := range names {
		if i%2 == 0 {
			must(t, d, mkdir("v/"+name), write("v/"+name+"/deep", ""))
		} else {
			must(t, d, write("v/"+name, ""))
		}
	}
	wantList(t, d, "", "v", "v0", "w")
	wantList(t, d, "v", "v/0", "v/9", "v/_", "v/a", "v/a0", "v/a_", "v/b", "v/z")
	wantList(t, d, "v/b", "v/b/deep")
	for _, p := range []string{"w", "v/a", "v/", "/", "/v", "x", "v/b/deep", "\xff", "v//b"} {
		wantList(t, d, p)
	}
}

// 5.5: all lists are new memory, rising whatever the map's order.
func TestListIsNew(t *testing.T) {
	d := made(t)
	for range 100 {
		must(t, d, write("v/b", ""), write("v/c", ""))
		list := d.List("v")
		for i := range list[:cap(list)] {
			list[:cap(list)][i] = "x"
		}
		wantList(t, d, "v", "v/a", "v/b", "v/c", "v/d")
	}
}

// 5.5, Words: all stamps are of one row.
func TestStamps(t *testing.T) {
	d := made(t)
	stamp := 2
	for _, c := range []struct {
		do   call
		p    string
		sets bool
	}{
		{write("v/b", ""), "v/b", true}, {write("v/b", ""), "v/b", true}, {appended("v/b", ""), "v/b", true}, {appended("v/a", "x"), "v/a", true}, {synced("v/a"), "v/a", false}, {rot("v/a", 1), "v/a", true}, {mkdir("v/e"), "v/a", false},
		{renamed("v/a", "v/d/x"), "v/d/x", true}, {renamed("v/d/x", "v/d/x"), "v/d/x", true}, {removed("v/e"), "v/d/x", false}, {limited("v", 100), "v/d/x", false}, {synced("v/b"), "v/d/x", false}, {restart(1), "v/d/x", false}, {removed("v/b"), "v/d/x", false}, {write("v/b", "x"), "v/b", true},
		{appended("v/b", "x"), "v/b", true}, {restart(2), "v/b", true}, {restart(3), "v/b", false},
	} {
		ahead := d.Stamp(c.p)
		must(t, d, c.do)
		if c.sets {
			stamp++
			ahead = stamp
		}
		if got := d.Stamp(c.p); got != ahead {
			t.Errorf("behind %v the stamp of %s is %d, want %d", c.do, c.p, got, ahead)
		}
	}
	want(t, d, write("v", ""), api.ErrPath)
	must(t, d, armed(0))
	want(t, d, write("v/b", ""), api.ErrDown)
	must(t, d, restart(0), write("v/b", ""))
	if d.Stamp("v/b") != stamp+1 {
		t.Errorf("refused calls have taken stamps: %d, want %d", d.Stamp("v/b"), stamp+1)
	}
}

// 5.5
func TestUsed(t *testing.T) {
	d := made(t)
	must(t, d, mkdir("v0"), write("v0/a", "12345"), write("v/b", "12"), appended("v/b", "3"))
	for v, used := range map[string]int{"v": 10, "v0": 5, "w": 0, "x": 0, "": 0, "v/d": 0, "v/a": 0, "v/": 0, "/": 0, "V": 0} {
		if got := d.Used(v); got != used {
			t.Errorf("Used(%q) = %d, want %d", v, got, used)
		}
	}
}

// behindLosses is what a file holds behind each of many losses.
func behindLosses(t *testing.T, p string, calls ...call) map[string]bool {
	t.Helper()
	out := map[string]bool{}
	for loss := range 400 {
		d := made(t)
		must(t, d, calls...)
		must(t, d, restart(loss))
		data, e := d.Read(p)
		if e != api.OK {
			t.Fatalf("loss %d: Read(%q) = %d", loss, p, e)
		}
		out[data] = true
		must(t, d, restart(loss+1))
		wantRead(t, d, p, data, api.OK)
	}
	return out
}

func wantLeft(t *testing.T, what string, got map[string]bool, list ...string) {
	t.Helper()
	for _, data := range list {
		if !got[data] {
			t.Errorf("%s: no loss leaves %q", what, data)
		}
	}
	for data := range got {
		if !slices.Contains(list, data) {
			t.Errorf("%s: a loss leaves %q", what, data)
		}
	}
}

// 5.6
func TestLosses(t *testing.T) {
	for _, c := range []struct {
		what  string
		p     string
		calls []call
		left  []string
	}{
		{"synced", "v/a", []call{write("v/a", "new"), synced("v/a")}, []string{"new"}},
		{"appended and synced", "v/a", []call{appended("v/a", "new"), synced("v/a")}, []string{"onenew"}},
		{"synced and renamed", "v/d/x", []call{renamed("v/a", "v/d/x")}, []string{"one"}},
		{"written anew", "v/a", []call{write("v/a", "new")}, []string{"one", "", "n", "ne", "new"}},
		{"written as nothing", "v/a", []call{write("v/a", "")}, []string{"one", ""}},
		{"written twice", "v/a", []call{write("v/a", "new"), write("v/a", "old")}, []string{"one", "", "o", "ol", "old"}},
		{"written for the first time", "v/b", []call{write("v/b", "new")}, []string{"", "n", "ne", "new"}},
		{"appended to", "v/a", []call{appended("v/a", "two")}, []string{"one", "onet", "onetw", "onetwo"}},
		{"appended to twice", "v/a", []call{appended("v/a", "t"), appended("v/a", "wo")}, []string{"one", "onet", "onetw", "onetwo"}},
		{"appended nothing", "v/a", []call{appended("v/a", "")}, []string{"one"}},
		{"written and appended to", "v/a", []call{write("v/a", "n"), appended("v/a", "ew")}, []string{"one", "", "n", "ne", "new"}},
		{"appended to and written", "v/a", []call{appended("v/a", "two"), write("v/a", "n")}, []string{"one", "", "n"}},
		{"written, synced, appended to", "v/a", []call{write("v/a", "n"), synced("v/a"), appended("v/a", "ew")}, []string{"n", "ne", "new"}},
		{"written, lost, appended to", "v/a", []call{write("v/a", "new"), restart(lossOf(t, 1, 5, 2)), appended("v/a", "x")}, []string{"n", "nx"}},
		{"written anew and renamed", "v/d/x", []call{write("v/a", "new"), renamed("v/a", "v/d/x")}, []string{"one", "", "n", "ne", "new"}},
		{"appended to and renamed", "v/d/x", []call{appended("v/a", "two"), renamed("v/a", "v/d/x")}, []string{"one", "onet", "onetw", "onetwo"}},
		{"renamed and appended to", "v/d/x", []call{renamed("v/a", "v/d/x"), appended("v/d/x", "two")}, []string{"one", "onet", "onetw", "onetwo"}},
		{"written and renamed onto itself", "v/a", []call{write("v/a", "n"), renamed("v/a", "v/a")}, []string{"one", "", "n"}},
		{"beside a loose one", "v/a", []call{write("v/b", "new"), write("v/0", "new")}, []string{"one"}},
	} {
		wantLeft(t, c.what, behindLosses(t, c.p, c.calls...), c.left...)
	}
}

// 5.6: folders, and which files there are, survive every loss.
func TestFoldersOutlive(t *testing.T) {
	for loss := range 20 {
		d := made(t)
		must(t, d, mkdir("u"), mkdir("u/d"), write("u/a", "x"), renamed("v/a", "w/a"), removed("v/d/x"), armed(0))
		want(t, d, mkdir("v"), api.ErrDown)
		must(t, d, restart(loss))
		wantList(t, d, "", "u", "v", "w")
		wantList(t, d, "u", "u/a", "u/d")
		wantList(t, d, "v", "v/d")
		wantList(t, d, "v/d")
		wantList(t, d, "w", "w/a")
		wantRead(t, d, "w/a", "one", api.OK)
	}
}

// Rule 6: what was lost hangs on the loss and the calls alone.
func TestAgain(t *testing.T) {
	run := func(loss int) told {
		d := made(t)
		must(t, d, write("v/a", bytesOf("abc", 30)), write("v/b", bytesOf("def", 30)), appended("v/d/x", bytesOf("ghi", 30)), write("v/d/y", "y"), write("w/a", bytesOf("jkl", 30)), restart(loss))
		return tell(d)
	}
	first := run(5)
	for range 50 {
		wantSame(t, "the same once more", run(5), first)
	}
	for _, loss := range []int{math.MinInt, math.MaxInt, -1} {
		wantSame(t, loss, run(loss), run(loss))
	}
}

// The chapter's examples.
func TestExamples(t *testing.T) {
	d := disk.New()
	must(t, d, mkdir("v"), write("v/a", "one"), appended("v/a", "two"), renamed("v/a", "v/b"))
	if d.Steps() != 4 || d.Used("v") != 6 || d.Stamp("v/b") != 3 {
		t.Errorf("%d steps, %d used, stamp %d", d.Steps(), d.Used("v"), d.Stamp("v/b"))
	}
	must(t, d, limited("v", 8))
	want(t, d, write("v/c", "123"), api.ErrFull)
	must(t, d, write("v/c", "12"), armed(1), synced("v/b"))
	for _, c := range []call{synced("v/b"), synced("v/c"), mkdir("w"), rot("v/b", 0), removed("v"), write("", "")} {
		want(t, d, c, api.ErrDown)
	}
	wantRead(t, d, "v/b", "", api.ErrDown)
	must(t, d, restart(0), synced("v/b"))
	wantRead(t, d, "v/b", "onetwo", api.OK)
}
