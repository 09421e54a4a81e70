package fill_test

import (
	"slices"
	"strings"
	"testing"

	"tether/api"
	"tether/disk"
	"tether/fill"
)

const (
	file   = "v/a"
	beside = "v/a_t"
	old    = "old"
	filled = "filled anew"
)

// volume is a disk with the volume v and a file in it, synced.
func volume(t *testing.T) *disk.Disk {
	t.Helper()
	d := disk.New()
	for _, e := range []api.Errno{d.Mkdir("v"), d.Write(file, old), d.Sync(file)} {
		if e != api.OK {
			t.Fatal(e)
		}
	}
	return d
}

func wantFile(t *testing.T, d *disk.Disk, p, data string) {
	t.Helper()
	if got, e := d.Read(p); got != data || e != api.OK {
		t.Errorf("Read(%q) = %q, %d; want %q", p, got, e, data)
	}
}

func wantList(t *testing.T, d *disk.Disk, list ...string) {
	t.Helper()
	if got := d.List("v"); !slices.Equal(got, list) {
		t.Errorf("List = %q, want %q", got, list)
	}
}

// 6.1: Write beside, Sync of that, Rename; at each stop the file is old or filled, whatever is lost.
func TestStepByStep(t *testing.T) {
	const steps = 3
	for n := range steps + 1 {
		for loss := range 50 {
			d := volume(t)
			from := d.Steps()
			d.Arm(n)
			e := fill.File(d, file, filled)
			if d.Steps()-from != n || (e == api.OK) != (n == steps) || (e == api.ErrDown) != (n < steps) {
				t.Fatalf("armed by %d: %d, %d steps", n, e, d.Steps()-from)
			}
			if e := d.Restart(loss); e != api.OK {
				t.Fatal(e)
			}
			switch n {
			case 0:
				wantFile(t, d, file, old)
				wantList(t, d, file)
			case steps:
				wantFile(t, d, file, filled)
				wantList(t, d, file)
			default:
				wantFile(t, d, file, old)
				wantList(t, d, file, beside)
			}
			if n == 2 {
				wantFile(t, d, beside, filled)
			}
		}
	}
}

// 6.1: a file that isn't there is made, and what is left beside it is written over.
func TestMakes(t *testing.T) {
	for _, data := range []string{"", "x", strings.Repeat("\x00\xff", 3000)} {
		d := volume(t)
		if d.Remove(file) != api.OK || d.Write(beside, "left over") != api.OK {
			t.Fatal("not made ready")
		}
		if e := fill.File(d, file, data); e != api.OK {
			t.Errorf("File = %d", e)
		}
		wantFile(t, d, file, data)
		wantList(t, d, file)
	}
}

// 6.1: the first error ends it.
func TestRefused(t *testing.T) {
	if e := fill.File(nil, file, ""); e != api.ErrInput {
		t.Errorf("File of a nil disk = %d", e)
	}
	for p, e := range map[string]api.Errno{
		"": api.ErrPath, "v": api.ErrPath, "v/A": api.ErrPath, "v/" + strings.Repeat("a", api.MaxName-1): api.ErrPath, "v/a/b/c/d/e/f": api.ErrPath,
		"w/a": api.ErrNone, "v/x/a": api.ErrNone, "v/a/x": api.ErrNone, "v/d": api.ErrDir, file: api.ErrFull,
	} {
		d := volume(t)
		if d.Mkdir("v/d_t") != api.OK || d.Limit("v", len(old)+len(filled)-1) != api.OK {
			t.Fatal("not made ready")
		}
		from := d.Steps()
		if got := fill.File(d, p, filled); got != e || d.Steps() != from {
			t.Errorf("File(%q) = %d with %d steps, want %d", p, got, d.Steps()-from, e)
		}
		wantFile(t, d, file, old)
		wantList(t, d, file, "v/d_t")
	}
}

// 6.1: Rename's error comes behind a file that is left beside.
func TestRenameRefused(t *testing.T) {
	d := volume(t)
	if e := d.Mkdir("v/d"); e != api.OK {
		t.Fatal(e)
	}
	if e := fill.File(d, "v/d", filled); e != api.ErrDir {
		t.Errorf("File of a folder = %d", e)
	}
	wantFile(t, d, "v/d_t", filled)
	wantList(t, d, file, "v/d", "v/d_t")
}
