package plan_test

import (
	"math/rand"
	"slices"
	"strconv"
	"strings"
	"testing"

	"tether/api"
	"tether/merge"
	"tether/plan"
	"tether/recon"
	"tether/tree"
)

var (
	none = api.Node{}
	dir  = api.Node{Kind: api.Dir}
)

func file(data string) api.Node { return api.Node{Kind: api.File, Data: data} }

func at(p string, n api.Node) api.Entry { return api.Entry{Path: p, Node: n} }

// text answers words between commas as a text with a line each.
func text(s string) string {
	if s == "" {
		return ""
	}
	return strings.ReplaceAll(s, ",", "\n") + "\n"
}

// grown answers the list of what words tell: a folder ends with a stroke, a file has its lines behind a =.
func grown(s string) []api.Entry {
	var t []api.Entry
	for _, word := range strings.Fields(s) {
		p, data, isFile := strings.Cut(word, "=")
		if isFile {
			t = append(t, at(p, file(text(data))))
		} else {
			t = append(t, at(strings.TrimSuffix(p, "/"), dir))
		}
	}
	return t
}

// tell answers a tree as such words, long data cut.
func tell(t []api.Entry) string {
	told := make([]string, len(t))
	for i, entry := range t {
		told[i] = entry.Path + "/"
		if entry.Node.Kind == api.File {
			data := strings.ReplaceAll(strings.TrimSuffix(entry.Node.Data, "\n"), "\n", ",")
			told[i] = entry.Path + "=" + data[:min(len(data), 40)]
		}
	}
	return strings.Join(told, " ")
}

// tellConflicts answers conflicts as words.
func tellConflicts(conflicts []api.Conflict) string {
	told := make([]string, len(conflicts))
	for i, c := range conflicts {
		told[i] = c.Path + " (" + tell(c.Hub) + " | " + tell(c.Side) + ")"
		if c.Text {
			told[i] += " text"
		}
	}
	return strings.Join(told, ", ")
}

// threes are the archive, the hub and the spoke.
type threes [3][]api.Entry

func three(arch, hub, side string) threes { return threes{grown(arch), grown(hub), grown(side)} }

func (x threes) tell() string {
	return "[" + tell(x[0]) + "; " + tell(x[1]) + "; " + tell(x[2]) + "]"
}

func (x threes) sync() (plan.Outcome, api.Errno) { return plan.Make(x[0], x[1], x[2]) }

// made are the trees of an outcome in the order of threes.
func made(o plan.Outcome) threes { return threes{o.Arch, o.Hub, o.Side} }

// under tells whether a path is another one or below it.
func under(p, top string) bool { return p == top || strings.HasPrefix(p, top+"/") }

// sub answers the entries at a path and below it.
func sub(t []api.Entry, p string) []api.Entry {
	return slices.DeleteFunc(slices.Clone(t), func(entry api.Entry) bool { return !under(entry.Path, p) })
}

// node answers what stands at a path.
func node(t []api.Entry, p string) api.Node {
	for _, entry := range t {
		if entry.Path == p {
			return entry.Node
		}
	}
	return none
}

// allPaths are the paths of all trees, rising.
func allPaths(trees ...[]api.Entry) []string {
	var out []string
	for _, entry := range slices.Concat(trees...) {
		out = append(out, entry.Path)
	}
	slices.Sort(out)
	return slices.Compact(out)
}

// sameConflict tells whether two conflicts are alike in all of their fields.
func sameConflict(a, b api.Conflict) bool {
	return a.Path == b.Path && slices.Equal(a.Hub, b.Hub) && slices.Equal(a.Side, b.Side) && a.Merged == b.Merged && a.Text == b.Text && a.Choice == b.Choice && a.Given == b.Given
}

// sameOutcome tells whether two outcomes are alike.
func sameOutcome(a, b plan.Outcome) bool {
	return slices.Equal(a.Hub, b.Hub) && slices.Equal(a.Side, b.Side) && slices.Equal(a.Arch, b.Arch) && slices.EqualFunc(a.Conflicts, b.Conflicts, sameConflict)
}

// copied answers an outcome that shares no memory with the one that is handed in.
func copied(o plan.Outcome) plan.Outcome {
	c := plan.Outcome{Hub: slices.Clone(o.Hub), Side: slices.Clone(o.Side), Arch: slices.Clone(o.Arch), Conflicts: slices.Clone(o.Conflicts)}
	for i := range c.Conflicts {
		c.Conflicts[i].Hub, c.Conflicts[i].Side = slices.Clone(c.Conflicts[i].Hub), slices.Clone(c.Conflicts[i].Side)
	}
	return c
}

// nodes is a tree as a map, which knows no order.
type nodes map[string]api.Node

func mapped(t []api.Entry) nodes {
	m := nodes{}
	for _, entry := range t {
		m[entry.Path] = entry.Node
	}
	return m
}

// put puts other things at a path and below it, and tells whether the map isn't too great then.
func (m nodes) put(p string, things []api.Entry) bool {
	for q := range m {
		if under(q, p) {
			delete(m, q)
		}
	}
	for _, entry := range things {
		m[entry.Path] = entry.Node
	}
	return len(m) <= api.MaxEntries
}

// list answers the map as a list by rising path.
func (m nodes) list() []api.Entry {
	var t []api.Entry
	for p, n := range m {
		t = append(t, at(p, n))
	}
	slices.SortFunc(t, func(a, b api.Entry) int { return strings.Compare(a.Path, b.Path) })
	return t
}

// marked answers the conflict at a path by the words of 18.2, of what merge answers.
func (x threes) marked(p string) api.Conflict {
	c := api.Conflict{Path: p, Hub: sub(x[1], p), Side: sub(x[2], p)}
	arch, hub, side := node(x[0], p), node(x[1], p), node(x[2], p)
	if hub.Kind != api.File || side.Kind != api.File {
		return c
	}
	base := ""
	if arch.Kind == api.File {
		base = arch.Data
	}
	if joined, _, e := merge.Merge(base, hub.Data, side.Data); e == api.OK && len(joined) <= api.MaxData {
		c.Merged, c.Text = joined, true
	}
	return c
}

// model answers what Make answers, by the words of 18.1 with maps for the trees.
func (x threes) model() (plan.Outcome, api.Errno) {
	arch, hub, side := mapped(x[0]), mapped(x[1]), mapped(x[2])
	var conflicts []api.Conflict
	for _, item := range recon.Items(x[0], x[1], x[2]) {
		p := item.Path
		inHub, inSide, fits := sub(x[1], p), sub(x[2], p), true
		switch item.What {
		case api.Agree:
			if !slices.Equal(inHub, inSide) {
				inHub = []api.Entry{at(p, dir)}
			}
			fits = arch.put(p, inHub)
		case api.ToSpoke:
			fits = side.put(p, inHub) && arch.put(p, inHub)
		case api.ToHub:
			fits = hub.put(p, inSide) && arch.put(p, inSide)
		case api.Merged:
			n, _ := recon.Merge(node(x[0], p), node(x[1], p), node(x[2], p))
			one := []api.Entry{at(p, n)}
			fits = hub.put(p, one) && side.put(p, one) && arch.put(p, one)
		case api.Clash:
			conflicts = append(conflicts, x.marked(p))
		}
		if !fits {
			return plan.Outcome{}, api.ErrLimit
		}
	}
	return plan.Outcome{Hub: hub.list(), Side: side.list(), Arch: arch.list(), Conflicts: conflicts}, api.OK
}

// held holds Make of three trees to the model and to 18.7, and answers the outcome.
func held(t *testing.T, x threes) (plan.Outcome, api.Errno) {
	t.Helper()
	got, e := x.sync()
	want, wantE := x.model()
	if e != wantE || !sameOutcome(got, want) {
		t.Fatalf("%s: %d %s %s, want %d %s %s", x.tell(), e, made(got).tell(), tellConflicts(got.Conflicts), wantE, made(want).tell(), tellConflicts(want.Conflicts))
	}
	if e != api.OK {
		return got, e
	}
	x.alike(t, got)
	x.kept(t, got)
	again, e := made(got).sync()
	if e != api.OK || !sameOutcome(again, got) {
		t.Fatalf("%s: another sync makes %s %s of %s", x.tell(), made(again).tell(), tellConflicts(again.Conflicts), made(got).tell())
	}
	for k, old := range x {
		stepped(t, old, made(got)[k])
	}
	changed(t, x, made(got))
	return got, e
}

// alike holds that the three are trees, alike at each path under no conflict and as they were at each path under one.
func (x threes) alike(t *testing.T, o plan.Outcome) {
	t.Helper()
	now := made(o)
	for _, p := range allPaths(x[0], x[1], x[2], now[0], now[1], now[2]) {
		stuck := slices.ContainsFunc(o.Conflicts, func(c api.Conflict) bool { return under(p, c.Path) })
		arch, hub, side := node(now[0], p), node(now[1], p), node(now[2], p)
		if !stuck && (arch != hub || hub != side) {
			t.Fatalf("%s: unlike at %s: %s", x.tell(), p, now.tell())
		}
		if stuck && (arch != node(x[0], p) || hub != node(x[1], p) || side != node(x[2], p)) {
			t.Fatalf("%s: touched at %s: %s", x.tell(), p, now.tell())
		}
	}
	for _, list := range now {
		if tree.Check(list) != api.OK {
			t.Fatalf("%s: no trees: %s", x.tell(), now.tell())
		}
	}
}

// kept holds that what one side alone has changed stays there, and comes to the other side unless a conflict is above it.
func (x threes) kept(t *testing.T, o plan.Outcome) {
	t.Helper()
	for _, p := range allPaths(x[0], x[1], x[2]) {
		arch, hub, side := node(x[0], p), node(x[1], p), node(x[2], p)
		if hub == arch && side != arch && node(o.Side, p) != side || side == arch && hub != arch && node(o.Hub, p) != hub {
			t.Fatalf("%s: taken back at %s: %s", x.tell(), p, made(o).tell())
		}
	}
}

// 18.1: each kind of item, with what it puts where.
func TestMake(t *testing.T) {
	for _, c := range []struct{ arch, hub, side, wantArch, wantHub, wantSide, conflicts string }{
		// Nothing is said.
		{"", "", "", "", "", "", ""},
		{"a/ a/x=1 b=2", "a/ a/x=1 b=2", "a/ a/x=1 b=2", "a/ a/x=1 b=2", "a/ a/x=1 b=2", "a/ a/x=1 b=2", ""},
		// Both alike.
		{"", "a=1", "a=1", "a=1", "a=1", "a=1", ""},
		{"a=1", "", "", "", "", "", ""},
		{"a/ a/x=1", "a/ a/y=2", "a/ a/y=2", "a/ a/y=2", "a/ a/y=2", "a/ a/y=2", ""},
		{"a=1 b=1", "a/ a/x=1 a/y/ b=1", "a/ a/x=1 a/y/ b=1", "a/ a/x=1 a/y/ b=1", "a/ a/x=1 a/y/ b=1", "a/ a/x=1 a/y/ b=1", ""},
		{"a/ a/x=1", "a=1", "a=1", "a=1", "a=1", "a=1", ""},
		{"a/ a/x=1 a0=1", "a0=1", "a0=1", "a0=1", "a0=1", "a0=1", ""},
		// A folder alone, since what is in it is unlike.
		{"", "a/ a/x=1", "a/ a/x=2", "a/", "a/ a/x=1", "a/ a/x=2", "a/x (a/x=1 | a/x=2) text"},
		{"a=1", "a/ a/x=1", "a/ a/x=2", "a/", "a/ a/x=1", "a/ a/x=2", "a/x (a/x=1 | a/x=2) text"},
		{"", "a/ a/x=1", "a/ a/y=2", "a/ a/x=1 a/y=2", "a/ a/x=1 a/y=2", "a/ a/x=1 a/y=2", ""},
		{"", "a/ a/b/ a/b/x=1 a/z=1", "a/ a/b/ a/b/x/ a/z=1", "a/ a/b/ a/z=1", "a/ a/b/ a/b/x=1 a/z=1", "a/ a/b/ a/b/x/ a/z=1", "a/b/x (a/b/x=1 | a/b/x/)"},
		// To the spoke.
		{"", "a/ a/x=1", "", "a/ a/x=1", "a/ a/x=1", "a/ a/x=1", ""},
		{"a=1", "a=2", "a=1", "a=2", "a=2", "a=2", ""},
		{"a/ a/x=1", "", "a/ a/x=1", "", "", "", ""},
		{"a/ a/x=1", "a=1", "a/ a/x=1", "a=1", "a=1", "a=1", ""},
		{"a=1 a0=1", "a/ a/x=1 a0=1", "a=1 a0=1", "a/ a/x=1 a0=1", "a/ a/x=1 a0=1", "a/ a/x=1 a0=1", ""},
		// To the hub.
		{"", "", "a/ a/x=1", "a/ a/x=1", "a/ a/x=1", "a/ a/x=1", ""},
		{"a=1", "a=1", "a=2", "a=2", "a=2", "a=2", ""},
		{"a/ a/x=1", "a/ a/x=1", "", "", "", "", ""},
		{"a/ a/x=1", "a/ a/x=1", "a=1", "a=1", "a=1", "a=1", ""},
		{"a=1 a0=1", "a=1 a0=1", "a/ a/x=1 a0=1", "a/ a/x=1 a0=1", "a/ a/x=1 a0=1", "a/ a/x=1 a0=1", ""},
		// Merged.
		{"a=1,2,3", "a=x,2,3", "a=1,2,y", "a=x,2,y", "a=x,2,y", "a=x,2,y", ""},
		{"a/ a/x=1", "a=", "a=3", "a=3", "a=3", "a=3", ""},
		{"b/ b/a=1,2,3", "b/ b/a=x,2,3", "b/ b/a=1,2,y", "b/ b/a=x,2,y", "b/ b/a=x,2,y", "b/ b/a=x,2,y", ""},
		// A clash.
		{"a=1", "a=2", "a=3", "a=1", "a=2", "a=3", "a (a=2 | a=3) text"},
		{"a=1", "a=2", "", "a=1", "a=2", "", "a (a=2 | )"},
		{"a=1", "", "a=2", "a=1", "", "a=2", "a ( | a=2)"},
		{"", "a/", "a=2", "", "a/", "a=2", "a (a/ | a=2)"},
		{"d/ d/x=1", "d/ d/x=2 d/y/", "", "d/ d/x=1", "d/ d/x=2 d/y/", "", "d (d/ d/x=2 d/y/ | )"},
		{"d/ d/x=1 d0=1", "d/ d/x=2 d0=1", "d=5 d0=1", "d/ d/x=1 d0=1", "d/ d/x=2 d0=1", "d=5 d0=1", "d (d/ d/x=2 | d=5)"},
		// Several: what clashes stays, what is beside it goes over.
		{"a=1 b=1,2,3 c=1", "a=1 b=x,2,3 c=2 n/", "a=9 b=1,2,y c=3", "a=9 b=x,2,y c=1 n/", "a=9 b=x,2,y c=2 n/", "a=9 b=x,2,y c=3 n/", "c (c=2 | c=3) text"},
		{"d/ d/a=1 d/b=1 d/c=1", "d/ d/a=2 d/b=2 d/c=1", "d/ d/a=3 d/b=1", "d/ d/a=1 d/b=2", "d/ d/a=2 d/b=2", "d/ d/a=3 d/b=2", "d/a (d/a=2 | d/a=3) text"},
		{"", "a=1 a_=1 b/ b/x=1", "a=2 a_/ b/ b/x=2", "b/", "a=1 a_=1 b/ b/x=1", "a=2 a_/ b/ b/x=2", "a (a=1 | a=2) text, a_ (a_=1 | a_/), b/x (b/x=1 | b/x=2) text"},
	} {
		x := three(c.arch, c.hub, c.side)
		got, e := held(t, x)
		if want := three(c.wantArch, c.wantHub, c.wantSide); e != api.OK || made(got).tell() != want.tell() || tellConflicts(got.Conflicts) != c.conflicts {
			t.Errorf("%s: %d %s %s, want %s %s", x.tell(), e, made(got).tell(), tellConflicts(got.Conflicts), want.tell(), c.conflicts)
		}
	}
}

// 18.2: the fields of a conflict, with a text and without one.
func TestConflicts(t *testing.T) {
	clash := func(hub, side string) string {
		return merge.Ahead + hub + merge.Middle + side + merge.Behind
	}
	bad, long := "\x00", strings.Repeat("\n", api.MaxLines+1)
	half := strings.Repeat("h", api.MaxData/2)
	fitting := strings.Repeat("s", api.MaxData/2-len(clash("", ""))-2)
	for _, c := range []struct {
		arch, hub, side []api.Entry
		merged          string
		isText          bool
	}{
		{grown("a=1,2,3"), grown("a=x,2,3"), grown("a=y,2,3"), clash("x\n", "y\n") + "2\n3\n", true},
		{grown("a=1,2,3"), grown("a=x,2,x"), grown("a=y,2,y"), clash("x\n", "y\n") + "2\n" + clash("x\n", "y\n"), true},
		{grown("a=1,2"), grown("a=2"), grown("a=x,2"), clash("", "x\n") + "2\n", true},
		{nil, grown("a=x"), grown("a=y"), clash("x\n", "y\n"), true},
		{grown("a/ a/b=1"), grown("a=x"), grown("a=y"), clash("x\n", "y\n"), true},
		{grown("a/"), grown("a=x,2"), grown("a=y,2"), clash("x\n2\n", "y\n2\n"), true},
		{nil, []api.Entry{at("a", file(half))}, []api.Entry{at("a", file(fitting))}, clash(half+"\n", fitting+"\n"), true},
		{nil, []api.Entry{at("a", file(half))}, []api.Entry{at("a", file(fitting+"s"))}, "", false},
		{grown("a=1"), []api.Entry{at("a", file(bad))}, grown("a=2"), "", false},
		{grown("a=1"), grown("a=2"), []api.Entry{at("a", file(bad))}, "", false},
		{[]api.Entry{at("a", file(bad))}, grown("a=1"), grown("a=2"), "", false},
		{grown("a=1"), []api.Entry{at("a", file(long))}, grown("a=2"), "", false},
		{grown("a=1"), grown("a=2"), grown("a/ a/b=2"), "", false},
		{grown("a=1"), grown("a/ a/b=2"), grown("a=2"), "", false},
		{grown("a=1"), nil, grown("a=2"), "", false},
		{grown("a=1"), grown("a=2"), nil, "", false},
		{grown("a/ a/b=1"), grown("a/ a/b=1 a/c/ a/c/d=1"), nil, "", false},
	} {
		x := threes{c.arch, c.hub, c.side}
		got, e := held(t, x)
		want := api.Conflict{Path: "a", Hub: c.hub, Side: c.side, Merged: c.merged, Text: c.isText}
		if e != api.OK || len(got.Conflicts) != 1 || !sameConflict(got.Conflicts[0], want) {
			t.Errorf("%s: %d %s, want %s", x.tell(), e, tellConflicts(got.Conflicts), tellConflicts([]api.Conflict{want}))
		}
	}
	// A text of MaxData bytes is told, and the case above with one byte more is none.
	if n := len(clash(half+"\n", fitting+"\n")); n != api.MaxData {
		t.Fatalf("%d bytes", n)
	}
}

// row is n files at the top whose names begin with a letter.
func row(letter string, n int) []api.Entry {
	var t []api.Entry
	for i := range n {
		t = append(t, at(letter+strconv.Itoa(1000+i), file("1\n")))
	}
	return t
}

// inside is a list of things with their paths in a folder, and the folder.
func inside(folder string, t []api.Entry) []api.Entry {
	out := []api.Entry{at(folder, dir)}
	for _, entry := range t {
		out = append(out, at(folder+"/"+entry.Path, entry.Node))
	}
	return out
}

// 18.1: trees grow to MaxEntries entries, and not by one more, whichever of the three it is.
func TestMakeLimit(t *testing.T) {
	const most = api.MaxEntries
	for _, c := range []struct {
		name            string
		arch, hub, side []api.Entry
		e               api.Errno
	}{
		{"all three to the limit", nil, row("h", 150), row("s", most-150), api.OK},
		{"all three past it", nil, row("h", 150), row("s", most-149), api.ErrLimit},
		{"whole trees that go over", nil, row("h", most), nil, api.OK},
		{"whole trees that are alike", nil, row("h", most), row("h", most), api.OK},
		// The archive holds what is below a conflict; a and b stand ahead of it.
		{"the archive to the limit, by both alike", inside("d", row("x", 99)), row("a", 100), slices.Concat(row("a", 100), grown("d=1")), api.OK},
		{"the archive past it, by both alike", inside("d", row("x", 100)), row("a", 100), slices.Concat(row("a", 100), grown("d=1")), api.ErrLimit},
		{"the archive past it, by the hub's", inside("d", row("x", 100)), row("a", 100), grown("d=1"), api.ErrLimit},
		{"the archive past it, by the spoke's", inside("d", row("x", 100)), nil, slices.Concat(row("a", 100), grown("d=1")), api.ErrLimit},
		{"the archive past it, by a folder alone", inside("d", row("x", most-1)), grown("a/ a/x=1"), grown("a/ a/x=2 d=1"), api.ErrLimit},
		{"the archive at it, by a folder alone", inside("d", row("x", most-2)), grown("a/ a/x=1"), grown("a/ a/x=2 d=1"), api.OK},
		{"the archive past it, by a merge", inside("d", row("x", most-1)), grown("a="), grown("a=1 d=1"), api.ErrLimit},
		{"the archive at it, by a merge", inside("d", row("x", most-2)), grown("a="), grown("a=1 d=1"), api.OK},
		// The hub or the spoke holds what the other one hasn't, below a conflict.
		{"the spoke alone past it", grown("d=1"), slices.Concat(row("a", 100), grown("d=2")), inside("d", row("x", 100)), api.ErrLimit},
		{"the spoke alone to it", grown("d=1"), slices.Concat(row("a", 100), grown("d=2")), inside("d", row("x", 99)), api.OK},
		{"the hub alone past it", grown("d=1"), inside("d", row("x", 100)), slices.Concat(row("a", 100), grown("d=2")), api.ErrLimit},
		{"the hub alone to it", grown("d=1"), inside("d", row("x", 99)), slices.Concat(row("a", 100), grown("d=2")), api.OK},
		// What goes ahead makes room, what goes behind comes too late.
		{"room ahead", row("a", 100), nil, slices.Concat(row("a", 100), row("h", 100)), api.OK},
		{"room made ahead in the hub", row("a", 120), row("a", 120), row("h", 120), api.OK},
		{"room made behind in the hub", row("s", 120), row("s", 120), row("h", 120), api.ErrLimit},
		{"room made ahead in the spoke", row("a", 120), row("h", 120), row("a", 120), api.OK},
		{"room made behind in the spoke", row("s", 120), row("h", 120), row("s", 120), api.ErrLimit},
		{"room made behind in the archive", row("s", 120), row("h", 120), row("h", 120), api.ErrLimit},
		{"one item that takes and gives", inside("d", row("x", most-1)), inside("d", row("y", most-1)), inside("d", row("y", most-1)), api.OK},
	} {
		x := threes{c.arch, c.hub, c.side}
		for k, list := range x {
			if tree.Check(list) != api.OK {
				t.Fatalf("%s: list %d is no tree", c.name, k)
			}
		}
		got, e := held(t, x)
		if e != c.e || e != api.OK && (got.Hub != nil || got.Side != nil || got.Arch != nil || got.Conflicts != nil) {
			t.Errorf("%s: %d, want %d; %s", c.name, e, c.e, made(got).tell())
		}
	}
}

// lists are all trees out of a few things at a, with another file beside it or without.
func lists() [][]api.Entry {
	var out [][]api.Entry
	for _, beside := range []string{"", " a0=1"} {
		for _, a := range []string{"", "a=", "a=1", "a=2", "a=1,2,3", "a=1,2,4", "a=0,2,3", "a/", "a/ a/x=1", "a/ a/x=2", "a/ a/x=1 a/y=1", "a/ a/x/", "a/ a/x/ a/x/z=1", "a/ a/x/ a/x/z=2 a/y=1"} {
			out = append(out, grown(a+beside))
		}
	}
	return out
}

// 18.1, 18.2, 18.7: all threes of small trees.
func TestAll(t *testing.T) {
	all := lists()
	for _, arch := range all {
		for _, hub := range all {
			for _, side := range all {
				held(t, threes{arch, hub, side})
			}
		}
	}
}

// someData answers a file's bytes: few of them, so that unlike files come to be alike.
func someData(source *rand.Rand) string {
	if source.Intn(12) == 0 {
		return "\x00" + strconv.Itoa(source.Intn(2))
	}
	var out strings.Builder
	for i := range 7 {
		line := i
		if source.Intn(6) == 0 {
			line = 7 + source.Intn(2)
		}
		out.WriteString(strconv.Itoa(line) + "\n")
	}
	return out.String()
}

// somePath answers a path of up to MaxDeep names, most of them short.
func somePath(source *rand.Rand) string {
	letters := []string{"a", "b", "a0", "a_"}
	var names []string
	for len(names) == 0 || len(names) < api.MaxDeep && source.Intn(5) < 3 {
		names = append(names, letters[source.Intn(len(letters))])
	}
	return strings.Join(names, "/")
}

// edited answers a text with one line changed.
func edited(source *rand.Rand, data string) string {
	lines := strings.SplitAfter(data, "\n")
	lines[source.Intn(len(lines))] = strconv.Itoa(source.Intn(3)) + "\n"
	return strings.Join(lines, "")
}

// users answers a tree behind some random edits, refused ones among them.
func users(source *rand.Rand, t []api.Entry, n int) []api.Entry {
	for range n {
		p := somePath(source)
		if len(t) > 0 && source.Intn(2) == 0 {
			p = t[source.Intn(len(t))].Path
		}
		var next []api.Entry
		var e api.Errno
		switch was := tree.Get(t, p); {
		case was.Kind == api.File && source.Intn(4) > 0:
			next, e = tree.Put(t, p, file(edited(source, was.Data)))
		case source.Intn(5) == 0:
			next, e = tree.Replace(t, p, nil)
		case source.Intn(2) == 0:
			next, e = tree.Put(t, p, dir)
		default:
			next, e = tree.Put(t, p, file(someData(source)))
		}
		if e == api.OK {
			t = next
		}
	}
	return t
}

// patchy answers a random tree out of many paths: much of it is the same in each such tree, and it is cut at MaxEntries.
func patchy(source *rand.Rand) []api.Entry {
	var t []api.Entry
	for i := range 10 {
		folder := "d" + strconv.Itoa(i)
		switch source.Intn(8) {
		case 0:
			t = append(t, at(folder, file(strconv.Itoa(source.Intn(2))+"\n")))
			continue
		case 1:
			continue
		}
		things := slices.DeleteFunc(row("x", 28), func(api.Entry) bool { return source.Intn(8) == 0 })
		t = append(t, inside(folder, things)...)
	}
	return t[:min(len(t), 150+source.Intn(51), api.MaxEntries)]
}

// 18.1, 18.2, 18.7: random trees, much alike and unlike ones.
func TestRandom(t *testing.T) {
	source := rand.New(rand.NewSource(18))
	conflicts, texts := 0, 0
	for range 1500 {
		arch := users(source, nil, source.Intn(80))
		both := users(source, arch, source.Intn(5))
		o, e := held(t, threes{arch, users(source, both, source.Intn(20)), users(source, both, source.Intn(20))})
		if e != api.OK {
			t.Fatalf("small trees: %d", e)
		}
		for _, c := range o.Conflicts {
			conflicts++
			if c.Text {
				texts++
			}
		}
	}
	if texts < 100 || conflicts-texts < 100 {
		t.Errorf("%d conflicts, %d of them with a text", conflicts, texts)
	}
}

// 18.1, 18.7: random trees that are great, so that some grow too great.
func TestRandomGreat(t *testing.T) {
	source := rand.New(rand.NewSource(200))
	seen := map[api.Errno]int{}
	for range 120 {
		_, e := held(t, threes{patchy(source), patchy(source), patchy(source)})
		seen[e]++
	}
	if seen[api.OK] < 20 || seen[api.ErrLimit] < 20 {
		t.Errorf("%d were made, %d refused", seen[api.OK], seen[api.ErrLimit])
	}
}
