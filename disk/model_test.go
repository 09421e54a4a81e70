package disk_test

import (
	"fmt"
	"math/bits"
	"math/rand"
	"regexp"
	"slices"
	"strings"
	"testing"

	"tether/api"
	"tether/disk"
)

// thing is a folder or a file as the chapter's words tell it.
type thing struct {
	path        string
	folder      bool
	seen, kept  []byte
	loose, anew bool
	stamp       int
}

// model is a disk as a list of things by rising path, and what the promises say of it told in another way.
type model struct {
	things         []*thing
	limits         map[string]int
	armed, stopped bool
	left           int
	steps, stamps  int
}

func newModel() *model { return &model{limits: map[string]int{}} }

var pathForm = regexp.MustCompile(`^[a-z0-9_]{1,12}(/[a-z0-9_]{1,12}){0,5}$`)

func (m *model) at(p string) *thing {
	for _, x := range m.things {
		if x.path == p {
			return x
		}
	}
	return nil
}

func (m *model) isFolder(p string) bool { return m.at(p) != nil && m.at(p).folder }
func (m *model) isFile(p string) bool   { return m.at(p) != nil && !m.at(p).folder }

func above(p string) string {
	names := strings.Split(p, "/")
	return strings.Join(names[:len(names)-1], "/")
}

func (m *model) below(p string) []string {
	var out []string
	for _, x := range m.things {
		if above(x.path) == p {
			out = append(out, x.path)
		}
	}
	return out
}

func (m *model) used(v string) int {
	sum := 0
	for _, x := range m.things {
		if strings.HasPrefix(x.path, v+"/") {
			sum += len(x.seen)
		}
	}
	return sum
}

func (m *model) put(x *thing) {
	m.take(x.path)
	m.things = append(m.things, x)
	slices.SortFunc(m.things, func(a, b *thing) int { return strings.Compare(a.path, b.path) })
}

func (m *model) take(p string) {
	m.things = slices.DeleteFunc(m.things, func(x *thing) bool { return x.path == p })
}

func (m *model) stampIt(x *thing) {
	m.stamps++
	x.stamp = m.stamps
}

// call is one of the eight that may be refused: its word, its paths and its data.
type call struct {
	word, p, to, data string
	n                 int
}

func (c call) String() string {
	return fmt.Sprintf("%s(%q, %q, %q, %d)", c.word, c.p, c.to, c.data, c.n)
}

// on does the call on a disk.
func (c call) on(d *disk.Disk) api.Errno {
	switch c.word {
	case "Mkdir":
		return d.Mkdir(c.p)
	case "Write":
		return d.Write(c.p, c.data)
	case "Append":
		return d.Append(c.p, c.data)
	case "Sync":
		return d.Sync(c.p)
	case "Rename":
		return d.Rename(c.p, c.to)
	case "Remove":
		return d.Remove(c.p)
	case "Rot":
		return d.Rot(c.p, c.n)
	case "Restart":
		return d.Restart(c.n)
	case "Limit":
		return d.Limit(c.p, c.n)
	case "Arm":
		d.Arm(c.n)
	}
	return api.OK
}

// refusal is 5.3's own refusals, and those of 5.4.
func (m *model) refusal(c call) api.Errno {
	if m.stopped {
		return api.ErrDown
	}
	short := c.word != "Mkdir" && c.word != "Remove"
	paths := []string{c.p}
	if c.word == "Rename" {
		paths = append(paths, c.to)
	}
	for _, p := range paths {
		if !pathForm.MatchString(p) || short && !strings.Contains(p, "/") {
			return api.ErrPath
		}
	}
	x, to := m.at(c.p), c.p
	grows := 0
	switch c.word {
	case "Mkdir":
		if above(c.p) != "" && !m.isFolder(above(c.p)) {
			return api.ErrNone
		}
		if m.isFile(c.p) {
			return api.ErrDir
		}
	case "Write":
		if !m.isFolder(above(c.p)) {
			return api.ErrNone
		}
		if m.isFolder(c.p) {
			return api.ErrDir
		}
		grows = len(c.data)
		if x != nil {
			grows -= len(x.seen)
		}
	case "Append", "Sync", "Rot":
		if x == nil {
			return api.ErrNone
		}
		if x.folder {
			return api.ErrDir
		}
		grows = len(c.data)
	case "Rename":
		if x == nil || !m.isFolder(above(c.to)) {
			return api.ErrNone
		}
		if x.folder || m.isFolder(c.to) {
			return api.ErrDir
		}
		to = c.to
		behind := newModel()
		behind.things = slices.Clone(m.things)
		behind.take(c.p)
		moved := *x
		moved.path = to
		behind.put(&moved)
		volume := strings.Split(to, "/")[0]
		grows = behind.used(volume) - m.used(volume)
		if c.p == to {
			return api.OK
		}
	case "Remove":
		if x == nil {
			return api.ErrNone
		}
		if x.folder && len(m.below(c.p)) > 0 {
			return api.ErrDir
		}
	}
	volume := strings.Split(to, "/")[0]
	if limit, ok := m.limits[volume]; ok && grows > 0 && m.used(volume)+grows > limit {
		return api.ErrFull
	}
	return api.OK
}

// do is 5.2 to 5.4, call by call.
func (m *model) do(c call) api.Errno {
	switch c.word {
	case "Limit":
		if c.n < 0 {
			return api.ErrInput
		}
		if !pathForm.MatchString(c.p) || strings.Contains(c.p, "/") {
			return api.ErrPath
		}
		m.limits[c.p] = c.n
		return api.OK
	case "Arm":
		m.armed, m.left = c.n >= 0, c.n
		return api.OK
	case "Restart":
		m.restart(c.n)
		return api.OK
	}
	if e := m.refusal(c); e != api.OK {
		return e
	}
	if c.word == "Rot" {
		x := m.at(c.p)
		x.seen, x.kept = turned(x.seen, c.n), turned(x.kept, c.n)
		m.stampIt(x)
		return api.OK
	}
	if m.armed && m.left == 0 {
		m.stopped = true
		return api.ErrDown
	}
	m.left--
	m.steps++
	m.change(c)
	return api.OK
}

func (m *model) change(c call) {
	x := m.at(c.p)
	switch c.word {
	case "Mkdir":
		m.put(&thing{path: c.p, folder: true})
	case "Write":
		if x == nil {
			x = &thing{path: c.p}
			m.put(x)
		}
		x.seen, x.loose, x.anew = []byte(c.data), true, true
		m.stampIt(x)
	case "Append":
		x.seen = slices.Concat(x.seen, []byte(c.data))
		x.loose = true
		m.stampIt(x)
	case "Sync":
		x.kept, x.loose, x.anew = x.seen, false, false
	case "Rename":
		m.take(c.p)
		x.path = c.to
		m.put(x)
		m.stampIt(x)
	case "Remove":
		m.take(c.p)
	}
}

func turned(s []byte, bit int) []byte {
	out := slices.Clone(s)
	if n := 8 * len(s); n > 0 {
		bit = (bit%n + n) % n
		out[bit/8] ^= byte(1) << (bit % 8)
	}
	return out
}

// mixed is 5.4's mix, with its products and divisions written out.
func mixed(loss, i int) uint64 {
	times := func(a, b uint64) uint64 { _, low := bits.Mul64(a, b); return low }
	x := uint64(loss) + times(uint64(i), 0x9e3779b97f4a7c15)
	x = times(x^(x/(1<<30)), 0xbf58476d1ce4e5b9)
	x = times(x^(x/(1<<27)), 0x94d049bb133111eb)
	return x ^ (x / (1 << 31))
}

func (m *model) restart(loss int) {
	i := 0
	for _, x := range m.things {
		if !x.loose {
			continue
		}
		i++
		n := mixed(loss, i)
		if x.anew {
			if k := n % (uint64(len(x.seen)) + 2); k > 0 {
				x.kept = x.seen[:k-1]
			}
		} else {
			more := uint64(len(x.seen) - len(x.kept))
			x.kept = x.seen[:len(x.kept)+int(n%(more+1))]
		}
		x.seen, x.loose, x.anew = x.kept, false, false
		m.stampIt(x)
	}
	m.stopped, m.armed = false, false
}

// wantAlike holds all that a disk tells against the model.
func wantAlike(t *testing.T, d *disk.Disk, m *model, paths []string) {
	t.Helper()
	if d.Steps() != m.steps || d.Down() != m.stopped {
		t.Fatalf("%d steps, down %v; want %d, %v", d.Steps(), d.Down(), m.steps, m.stopped)
	}
	for _, p := range paths {
		kind, stamp, data, e := api.None, 0, "", api.ErrNone
		if x := m.at(p); x != nil && x.folder {
			kind, e = api.Dir, api.ErrDir
		} else if x != nil {
			kind, stamp, data, e = api.File, x.stamp, string(x.seen), api.OK
		}
		if m.stopped {
			data, e = "", api.ErrDown
		}
		got, gotE := d.Read(p)
		if d.Kind(p) != kind || d.Stamp(p) != stamp || got != data || gotE != e {
			t.Fatalf("%q: kind %d, stamp %d, Read %q, %d; want %d, %d, %q, %d", p, d.Kind(p), d.Stamp(p), got, gotE, kind, stamp, data, e)
		}
		if list := d.List(p); !slices.Equal(list, m.below(p)) {
			t.Fatalf("List(%q) = %q, want %q", p, list, m.below(p))
		}
		used := 0
		if p != "" && !strings.Contains(p, "/") {
			used = m.used(p)
		}
		if d.Used(p) != used {
			t.Fatalf("Used(%q) = %d, want %d", p, d.Used(p), used)
		}
	}
	if list := d.List(""); !slices.Equal(list, m.below("")) {
		t.Fatalf("List of nothing = %q, want %q", list, m.below(""))
	}
}

// scriptPaths are few, so that calls meet; some are no paths, and some have too many names or one alone.
var scriptPaths = []string{"", "v", "w", "V", "v/", "v/a", "v/b", "v/c", "v/c/a", "v/c/b", "w/a", "w/b", "v/c/d", "v/c/d/e", "v/c/d/e/f", "v/c/d/e/f/g", "v/c/d/e/f/g/h", "u/a"}

func someCall(source *rand.Rand) call {
	words := []string{"Mkdir", "Mkdir", "Write", "Write", "Write", "Append", "Append", "Append", "Sync", "Rename", "Rename", "Remove", "Rot", "Restart", "Limit", "Arm"}
	c := call{word: words[source.Intn(len(words))]}
	some := func() string { return scriptPaths[source.Intn(len(scriptPaths))] }
	c.p = some()
	switch c.word {
	case "Write", "Append":
		c.data = strings.Repeat(string(rune('a'+source.Intn(26))), source.Intn(6))
	case "Rename":
		c.to = some()
	case "Rot", "Restart":
		c.n = int(source.Uint64()) >> source.Intn(60)
	case "Limit":
		c.n = source.Intn(40) - 2
	case "Arm":
		c.n = source.Intn(60) - 20
	}
	return c
}

// 5.2 to 5.6: scripts of all calls, each answer and all that is told held against the model.
func TestScripts(t *testing.T) {
	for seed := range 300 {
		source := rand.New(rand.NewSource(int64(seed)))
		d, m := disk.New(), newModel()
		met := map[api.Errno]int{}
		for range 300 {
			c := someCall(source)
			got, want := c.on(d), m.do(c)
			if got != want {
				t.Fatalf("script %d: %v = %d, want %d", seed, c, got, want)
			}
			met[got]++
			wantAlike(t, d, m, scriptPaths)
			if d.Down() && source.Intn(3) == 0 {
				again := call{word: "Restart", n: int(source.Uint64())}
				again.on(d)
				m.do(again)
				wantAlike(t, d, m, scriptPaths)
			}
		}
		if met[api.OK] == 0 || met[api.ErrPath] == 0 || met[api.ErrNone] == 0 {
			t.Errorf("script %d has met but %v", seed, met)
		}
	}
}
