package recon_test

import (
	"math"
	"math/rand"
	"slices"
	"strconv"
	"strings"
	"testing"

	"tether/api"
	"tether/merge"
	"tether/recon"
	"tether/tree"
)

var (
	none = api.Node{}
	dir  = api.Node{Kind: api.Dir}
)

func file(data string) api.Node { return api.Node{Kind: api.File, Data: data} }

func at(p string, n api.Node) api.Entry { return api.Entry{Path: p, Node: n} }

// text answers words between commas as a text with a line each.
func text(s string) string {
	if s == "" {
		return ""
	}
	return strings.ReplaceAll(s, ",", "\n") + "\n"
}

// grown answers the list of what words tell: a folder ends with a stroke, a file has its lines behind a =.
func grown(s string) []api.Entry {
	var t []api.Entry
	for _, word := range strings.Fields(s) {
		p, data, isFile := strings.Cut(word, "=")
		if isFile {
			t = append(t, at(p, file(text(data))))
		} else {
			t = append(t, at(strings.TrimSuffix(p, "/"), dir))
		}
	}
	return t
}

// tell answers items as words.
func tell(items []api.Item) string {
	names := map[int]string{api.Agree: "agree", api.ToSpoke: "spoke", api.ToHub: "hub", api.Merged: "merged", api.Clash: "clash"}
	told := make([]string, len(items))
	for i, item := range items {
		told[i] = item.Path + " " + names[item.What]
	}
	return strings.Join(told, ", ")
}

// threes are the archive, the hub and the spoke.
type threes [3][]api.Entry

// tell answers the trees with their data as Go writes them, the long ones cut.
func (x threes) tell() string {
	var out strings.Builder
	for k, name := range []string{"arch:", " hub:", " side:"} {
		out.WriteString(name)
		for _, entry := range x[k] {
			out.WriteString(" " + entry.Path)
			if entry.Node.Kind == api.File {
				out.WriteString("=" + strconv.Quote(entry.Node.Data[:min(len(entry.Node.Data), 40)]))
			}
		}
		out.WriteString(";")
	}
	return out.String()
}

// sub answers the entries at a path and below it.
func sub(t []api.Entry, p string) []api.Entry {
	var out []api.Entry
	for _, entry := range t {
		if entry.Path == p || strings.HasPrefix(entry.Path, p+"/") {
			out = append(out, entry)
		}
	}
	return out
}

// node answers what stands at a path.
func node(t []api.Entry, p string) api.Node {
	for _, entry := range t {
		if entry.Path == p {
			return entry.Node
		}
	}
	return none
}

// paths answers all paths of the three, rising.
func (x threes) paths() []string {
	var out []string
	for _, t := range x {
		for _, entry := range t {
			out = append(out, entry.Path)
		}
	}
	slices.Sort(out)
	return slices.Compact(out)
}

// mergeable tells by the chapter's words whether three nodes make a file without a conflict, and which one.
func mergeable(arch, hub, side api.Node) (string, bool) {
	base := ""
	if arch.Kind == api.File {
		base = arch.Data
	}
	if hub.Kind != api.File || side.Kind != api.File {
		return "", false
	}
	made, conflicts, e := merge.Merge(base, hub.Data, side.Data)
	return made, e == api.OK && conflicts == 0 && len(made) <= api.MaxData
}

// model answers the items by the chapter's words: all paths are gone through, and those that are weighed are told from the others.
func (x threes) model() []api.Item {
	var out []api.Item
	say := func(p string, what int) { out = append(out, api.Item{Path: p, What: what}) }
	opened := map[string]bool{"": true}
	for _, p := range x.paths() {
		up := ""
		if stroke := strings.LastIndex(p, "/"); stroke >= 0 {
			up = p[:stroke]
		}
		if !opened[up] {
			continue
		}
		A, H, S := sub(x[0], p), sub(x[1], p), sub(x[2], p)
		a, h, s := node(A, p), node(H, p), node(S, p)
		if slices.Equal(H, S) {
			if !slices.Equal(A, H) {
				say(p, api.Agree)
			}
			continue
		}
		if h.Kind == api.Dir && s.Kind == api.Dir {
			opened[p] = true
			if a.Kind != api.Dir {
				say(p, api.Agree)
			}
			continue
		}
		_, ok := mergeable(a, h, s)
		switch {
		case slices.Equal(H, A):
			say(p, api.ToHub)
		case slices.Equal(S, A):
			say(p, api.ToSpoke)
		case ok:
			say(p, api.Merged)
		default:
			say(p, api.Clash)
		}
	}
	return out
}

// held holds Items of three trees to the model and to what 17.3 says, and answers the items.
func held(t *testing.T, x threes) []api.Item {
	t.Helper()
	got := recon.Items(x[0], x[1], x[2])
	if want := x.model(); !slices.Equal(got, want) {
		t.Fatalf("%s %s, want %s", x.tell(), tell(got), tell(want))
	}
	for i, item := range got {
		if i > 0 && got[i-1].Path >= item.Path {
			t.Fatalf("%s %s: the paths don't rise", x.tell(), tell(got))
		}
		x.fair(t, item)
	}
	x.covered(t, got)
	x.mirrored(t, got)
	x.oneSided(t)
	return got
}

// fair holds one item to 17.3: what goes over overwrites nothing that has changed, and what clashes or is merged has changed on both sides.
func (x threes) fair(t *testing.T, item api.Item) {
	t.Helper()
	p := item.Path
	hubChanged, sideChanged := !slices.Equal(sub(x[1], p), sub(x[0], p)), !slices.Equal(sub(x[2], p), sub(x[0], p))
	fair := map[int]bool{
		api.ToHub:   !hubChanged && sideChanged,
		api.ToSpoke: hubChanged && !sideChanged,
		api.Merged:  hubChanged && sideChanged && node(x[1], p).Kind == api.File && node(x[2], p).Kind == api.File,
		api.Clash:   hubChanged && sideChanged,
		api.Agree:   hubChanged && sideChanged && node(x[1], p).Kind == node(x[2], p).Kind,
	}
	if !fair[item.What] {
		t.Fatalf("%s %s isn't fair", x.tell(), tell([]api.Item{item}))
	}
}

// covered holds that each path at which the sides are unlike stands under just one item that isn't Agree.
func (x threes) covered(t *testing.T, items []api.Item) {
	t.Helper()
	for _, p := range x.paths() {
		n := 0
		for _, item := range items {
			if item.What != api.Agree && (p == item.Path || strings.HasPrefix(p, item.Path+"/")) {
				n++
			}
		}
		if n > 1 || n == 0 && node(x[1], p) != node(x[2], p) {
			t.Fatalf("%s %s: %d items over %s", x.tell(), tell(items), n, p)
		}
	}
}

// mirrored holds that the hub and the side changed about change nothing but what goes to whom; merges don't hang on the side either.
func (x threes) mirrored(t *testing.T, items []api.Item) {
	t.Helper()
	want := slices.Clone(items)
	for i := range want {
		switch want[i].What {
		case api.ToHub:
			want[i].What = api.ToSpoke
		case api.ToSpoke:
			want[i].What = api.ToHub
		case api.Merged, api.Clash:
			p := want[i].Path
			want[i].What = api.Clash
			if _, ok := mergeable(node(x[0], p), node(x[2], p), node(x[1], p)); ok {
				want[i].What = api.Merged
			}
		}
	}
	if got := recon.Items(x[0], x[2], x[1]); !slices.Equal(got, want) {
		t.Fatalf("%s changed about: %s, want %s", x.tell(), tell(got), tell(want))
	}
}

// oneSided holds that what one side alone has changed goes over, that nothing else is said but Agree, and that it is then done.
func (x threes) oneSided(t *testing.T) {
	t.Helper()
	for k := 1; k <= 2; k++ {
		was, is := x[0], x[k]
		toHub, toSpoke := recon.Items(was, was, is), recon.Items(was, is, was)
		wantOver(t, was, is, toHub, api.ToHub)
		wantOver(t, was, is, toSpoke, api.ToSpoke)
		for i, item := range recon.Items(was, is, is) {
			if item.What != api.Agree {
				t.Fatalf("%s both alike: item %d is %s", x.tell(), i, tell([]api.Item{item}))
			}
		}
		if done := recon.Items(is, is, is); len(done) > 0 {
			t.Fatalf("%s all alike: %s", x.tell(), tell(done))
		}
	}
}

// wantOver holds that items go one way alone and make the one tree of the other.
func wantOver(t *testing.T, was, is []api.Entry, items []api.Item, what int) {
	t.Helper()
	made := was
	for _, item := range items {
		if item.What != what {
			t.Fatalf("%s one side alone: %s", threes{was, is}.tell(), tell(items))
		}
		made = slices.DeleteFunc(slices.Clone(made), func(entry api.Entry) bool { return len(sub([]api.Entry{entry}, item.Path)) > 0 })
		made = append(made, sub(is, item.Path)...)
	}
	slices.SortFunc(made, func(x, y api.Entry) int { return strings.Compare(x.Path, y.Path) })
	if !slices.Equal(made, is) {
		t.Fatalf("%s what goes over doesn't make the one of the other: %s", threes{was, is}.tell(), tell(items))
	}
}

// 17.1: the chapter's examples, and each of its rules in its place.
func TestItems(t *testing.T) {
	for _, c := range []struct{ arch, hub, side, want string }{
		// The chapter's examples.
		{"", "a=1", "", "a spoke"},
		{"a=1", "a=1", "", "a hub"},
		{"a=1", "a=2", "a=3", "a clash"},
		{"", "a/ a/x=1", "a/ a/y=2", "a agree, a/x spoke, a/y hub"},
		{"a/ a/x=1", "a/ a/x=2", "a=1", "a clash"},
		// The sides are alike.
		{"", "", "", ""},
		{"a/ a/x=1 b=2", "a/ a/x=1 b=2", "a/ a/x=1 b=2", ""},
		{"", "a=1", "a=1", "a agree"},
		{"a=1", "", "", "a agree"},
		{"a=1", "a=2", "a=2", "a agree"},
		{"a=1", "a/", "a/", "a agree"},
		{"a/ a/x=1", "a/", "a/", "a agree"},
		{"", "a/ a/x=1 a/y=2", "a/ a/x=1 a/y=2", "a agree"},
		{"a/ a/x=1", "a/ a/x=2", "a/ a/x=2", "a agree"},
		{"a=1", "a=1", "a=1", ""},
		// A folder in both.
		{"a/", "a/ a/x=1", "a/", "a/x spoke"},
		{"a/", "a/", "a/ a/x=1", "a/x hub"},
		{"a=1", "a/ a/x=1", "a/", "a agree, a/x spoke"},
		{"a=1", "a/", "a/ a/x=1", "a agree, a/x hub"},
		{"a/ a/x=1", "a/ a/x=1", "a/ a/x=2", "a/x hub"},
		{"a/ a/x=1", "a/ a/x=1", "a/", "a/x hub"},
		{"a/ a/x=1", "a/", "a/ a/x=1", "a/x spoke"},
		{"a/ a/x=1 a/y=2", "a/ a/y=2", "a/ a/y=3", "a/x agree, a/y hub"},
		{"a/ a/b/ a/b/x=1", "a/ a/c=3", "a/", "a/b agree, a/c spoke"},
		{"a/ a/b/ a/b/x=1", "a/ a/b/ a/b/x=2", "a/ a/b/ a/b/x=3", "a/b/x clash"},
		{"", "a/ a/b/ a/b/c/ a/b/c/d/", "a/ a/b/ a/b/c/ a/b/c/x=1", "a agree, a/b agree, a/b/c agree, a/b/c/d spoke, a/b/c/x hub"},
		{"a/ a/b=1", "a/ a/b/ a/b/x=1", "a/ a/b/", "a/b agree, a/b/x spoke"},
		// The hub has changed nothing.
		{"a/ a/x=1", "a/ a/x=1", "", "a hub"},
		{"a/ a/x=1", "a/ a/x=1", "a=1", "a hub"},
		{"a=1", "a=1", "a/ a/x=1", "a hub"},
		{"", "", "a/ a/x=1 a/y/", "a hub"},
		{"a=1,2,3", "a=1,2,3", "a=1,2,y", "a hub"},
		// The spoke has changed nothing.
		{"a/ a/x=1", "", "a/ a/x=1", "a spoke"},
		{"a/ a/x=1", "a=1", "a/ a/x=1", "a spoke"},
		{"a=1", "a/ a/x=1", "a=1", "a spoke"},
		{"a=1,2,3", "a=x,2,3", "a=1,2,3", "a spoke"},
		// A merge.
		{"a=1,2,3", "a=x,2,3", "a=1,2,y", "a merged"},
		{"", "a=", "a=3", "a merged"},
		{"a/", "a=", "a=3", "a merged"},
		{"a/ a/x=1", "a=", "a=3", "a merged"},
		{"a/ a/x=1,2,3", "a/ a/x=x,2,3", "a/ a/x=1,2,y", "a/x merged"},
		// A clash.
		{"", "a=1", "a=2", "a clash"},
		{"a=1", "a=2", "", "a clash"},
		{"a=1", "", "a=2", "a clash"},
		{"a=1", "a=2", "a/", "a clash"},
		{"", "a/", "a=2", "a clash"},
		{"a/ a/x=1", "a/", "", "a clash"},
		{"a/ a/x=1", "", "a/ a/x=2", "a clash"},
		{"a/ a/x=1", "a/ a/x=1 a/y=2", "a=1", "a clash"},
		{"a/ a/x=1", "a=1", "a=2", "a clash"},
		{"a/ a/b/ a/b/x=1", "a/ a/b/ a/b/x=2", "a/", "a/b clash"},
		{"a=1,2", "a=x,2", "a=1,y", "a clash"},
		// Several, by rising path: what is below a comes ahead of a0.
		{"a/ a/x=1 a0=1", "a/ a/x=1 a0=2", "a/ a/x=2 a0=1", "a/x hub, a0 spoke"},
		{"a=1 b=1 c=1 d=1", "a=2 b=1 c=2 e=2", "a=1 b=2 c=3 e=1", "a spoke, b hub, c clash, d agree, e clash"},
		{"a/ a/x=1 a_=1 aa=1 b=1", "a/ a/x=2 a_=1 aa=2 b=2", "a/ a/x=1 a_=2 aa=2 b=2", "a/x spoke, a_ hub, aa agree, b agree"},
	} {
		x := threes{grown(c.arch), grown(c.hub), grown(c.side)}
		if got := recon.Items(x[0], x[1], x[2]); tell(got) != c.want {
			t.Errorf("%s; %s; %s: %s, want %s", c.arch, c.hub, c.side, tell(got), c.want)
		}
		held(t, x)
	}
}

// 17.1: files that are no texts go over, but aren't merged.
func TestBinary(t *testing.T) {
	bad := "1\n\x00\n"
	for _, c := range []struct {
		arch, hub, side string
		what            int
	}{
		{"1\n", bad, "1\n", api.ToSpoke}, {bad, bad, "2\n", api.ToHub}, {"1\n", bad, bad, api.Agree},
		{bad, "", "1\n", api.Clash}, {"", bad, "1\n", api.Clash}, {"", "1\n", bad, api.Clash},
	} {
		x := threes{{at("a", file(c.arch))}, {at("a", file(c.hub))}, {at("a", file(c.side))}}
		if got := held(t, x); len(got) != 1 || got[0].What != c.what {
			t.Errorf("%q; %q; %q: %s, want %d", c.arch, c.hub, c.side, tell(got), c.what)
		}
	}
}

// lists are all trees out of a few things at a, with another file beside it or without.
func lists() [][]api.Entry {
	var out [][]api.Entry
	for _, beside := range []string{"", " a0=1"} {
		for _, a := range []string{"", "a=", "a=1", "a=2", "a=1,2,3", "a=1,2,4", "a=0,2,3", "a/", "a/ a/x=1", "a/ a/x=2", "a/ a/y=1", "a/ a/x=1 a/y=1", "a/ a/x/", "a/ a/x/ a/x/z=1", "a/ a/x/ a/x/z=2", "a/ a/x/ a/x/z=1 a/y=1"} {
			out = append(out, grown(a+beside))
		}
	}
	return out
}

// 17.1, 17.3: all threes of small trees.
func TestAll(t *testing.T) {
	all := lists()
	seen := map[int]int{}
	for _, arch := range all {
		for _, hub := range all {
			for _, side := range all {
				for _, item := range held(t, threes{arch, hub, side}) {
					seen[item.What]++
				}
			}
		}
	}
	for what := api.Agree; what <= api.Clash; what++ {
		if seen[what] == 0 {
			t.Errorf("no item was %d", what)
		}
	}
}

// someData answers a file's bytes: few of them, so that unlike files come to be alike.
func someData(source *rand.Rand) string {
	if source.Intn(12) == 0 {
		return "\x00" + strconv.Itoa(source.Intn(2))
	}
	var out strings.Builder
	for i := range 7 {
		line := i
		if source.Intn(6) == 0 {
			line = 7 + source.Intn(2)
		}
		out.WriteString(strconv.Itoa(line) + "\n")
	}
	return out.String()
}

// somePath answers a path of up to MaxDeep names, most of them short.
func somePath(source *rand.Rand) string {
	var names []string
	for len(names) == 0 || len(names) < api.MaxDeep && source.Intn(5) < 3 {
		names = append(names, []string{"a", "b", "a0", "a_"}[source.Intn(4)])
	}
	return strings.Join(names, "/")
}

// edited answers a text with one line changed.
func edited(source *rand.Rand, data string) string {
	lines := strings.SplitAfter(data, "\n")
	lines[source.Intn(len(lines))] = strconv.Itoa(source.Intn(3)) + "\n"
	return strings.Join(lines, "")
}

// changed answers a tree behind some random changes, refused ones among them.
func changed(source *rand.Rand, t []api.Entry, n int) []api.Entry {
	for range n {
		p := somePath(source)
		if len(t) > 0 && source.Intn(2) == 0 {
			p = t[source.Intn(len(t))].Path
		}
		var next []api.Entry
		var e api.Errno
		switch was := tree.Get(t, p); {
		case was.Kind == api.File && source.Intn(4) > 0:
			next, e = tree.Put(t, p, file(edited(source, was.Data)))
		case source.Intn(4) == 0:
			next, e = tree.Replace(t, p, nil)
		case source.Intn(2) == 0:
			next, e = tree.Put(t, p, dir)
		default:
			next, e = tree.Put(t, p, file(someData(source)))
		}
		if e == api.OK {
			t = next
		}
	}
	return t
}

// 17.1, 17.3: random trees, much alike and unlike ones.
func TestRandom(t *testing.T) {
	source := rand.New(rand.NewSource(17))
	seen := map[int]int{}
	for range 3000 {
		arch := changed(source, nil, source.Intn(80))
		both := changed(source, arch, source.Intn(4))
		hub, side := changed(source, both, source.Intn(20)), changed(source, both, source.Intn(20))
		for _, item := range held(t, threes{arch, hub, side}) {
			seen[item.What]++
		}
	}
	for what := api.Agree; what <= api.Clash; what++ {
		if seen[what] < 100 {
			t.Errorf("%d items were %d", seen[what], what)
		}
	}
}

// wide is a tree of MaxEntries files at the top with one data each, told by its place.
func wide(data func(i int) string) []api.Entry {
	var t []api.Entry
	for i := range api.MaxEntries {
		t = append(t, at("n"+strconv.Itoa(1000+i), file(data(i))))
	}
	return t
}

// 17.1: trees as great and as deep as may be.
func TestGreat(t *testing.T) {
	constant := func(s string) func(int) string { return func(int) string { return s } }
	turns := func(i int) string { return strconv.Itoa(i%3) + "\n" }
	x := threes{wide(constant("0\n")), wide(turns), wide(constant("1\n"))}
	if got := held(t, x); len(got) != api.MaxEntries {
		t.Errorf("%d items, want %d", len(got), api.MaxEntries)
	}
	other := wide(constant("1\n"))
	for i := range other {
		other[i].Path = "o" + other[i].Path[1:]
	}
	if got := held(t, threes{nil, x[1], other}); len(got) != 2*api.MaxEntries {
		t.Errorf("nothing in common: %d items, want %d", len(got), 2*api.MaxEntries)
	}
	if got := held(t, threes{x[1], nil, other}); len(got) != 2*api.MaxEntries {
		t.Errorf("all gone in the hub: %d items, want %d", len(got), 2*api.MaxEntries)
	}
	deep := func(last string) []api.Entry { return grown("a/ a/b/ a/b/c/ a/b/c/d/ a/b/c/d/" + last) }
	for _, c := range []struct {
		x    threes
		want string
	}{
		{threes{deep("e=1"), deep("e=2"), deep("e=1")}, "a/b/c/d/e spoke"},
		{threes{deep("e=1"), deep("e=2"), deep("e/")}, "a/b/c/d/e clash"},
		{threes{nil, deep("e=2"), deep("f=2")}, "a agree, a/b agree, a/b/c agree, a/b/c/d agree, a/b/c/d/e spoke, a/b/c/d/f hub"},
		{threes{deep("e/"), deep("e/"), nil}, "a hub"},
	} {
		if got := held(t, c.x); tell(got) != c.want {
			t.Errorf("%s %s, want %s", c.x.tell(), tell(got), c.want)
		}
	}
}

// short answers nodes as words, with the first of their bytes.
func short(nodes ...api.Node) string {
	told := make([]string, len(nodes))
	for i, n := range nodes {
		told[i] = strconv.Itoa(n.Kind) + " " + strconv.Quote(n.Data[:min(len(n.Data), 40)])
	}
	return strings.Join(told, ", ")
}

// marked holds Marked and Merge of three nodes to what is wanted.
func marked(t *testing.T, n [3]api.Node, want string, conflicts int, e api.Errno) {
	t.Helper()
	got, m, f := recon.Marked(n[0], n[1], n[2])
	if got != want || m != conflicts || f != e {
		t.Errorf("Marked of %s: %.100q, %d, %d; want %.100q, %d, %d", short(n[:]...), got, m, f, want, conflicts, e)
	}
	made, ok := recon.Merge(n[0], n[1], n[2])
	wantMade, wantOK := none, e == api.OK && conflicts == 0
	if wantOK {
		wantMade = file(want)
	}
	if made != wantMade || ok != wantOK {
		t.Errorf("Merge of %s: %s, %t; want %s, %t", short(n[:]...), short(made), ok, short(wantMade), wantOK)
	}
}

// 17.2: texts with and without conflicts, of every kind of base, and each refusal.
func TestMarked(t *testing.T) {
	clash := merge.Ahead + "x\n" + merge.Middle + "y\n" + merge.Behind
	bad, long := "\x00", strings.Repeat("\n", api.MaxLines+1)
	for _, c := range []struct {
		arch, hub, side api.Node
		want            string
		conflicts       int
		e               api.Errno
	}{
		{file(text("1,2,3")), file(text("x,2,3")), file(text("1,2,y")), text("x,2,y"), 0, api.OK},
		{file(text("1,2,3")), file(text("x,2,3")), file(text("y,2,3")), clash + text("2,3"), 1, api.OK},
		{file(text("1,2,3")), file(text("x,2,x")), file(text("y,2,y")), clash + "2\n" + clash, 2, api.OK},
		{file("1\n"), file("x"), file("y"), clash, 1, api.OK},
		{file("a\n"), file(""), file("a\n"), "", 0, api.OK},
		{file("a\n"), file("a\n"), file("b\n"), "b\n", 0, api.OK},
		{file("a\n"), file("b\n"), file("a\n"), "b\n", 0, api.OK},
		{file("a\n"), file("b\n"), file("b\n"), "b\n", 0, api.OK},
		{file(""), file(""), file(""), "", 0, api.OK},
		// The base is nothing where the archive has no file.
		{none, file("x\n"), file("x\n"), "x\n", 0, api.OK},
		{none, file(""), file("x\n"), "x\n", 0, api.OK},
		{dir, file("x\n"), file(""), "x\n", 0, api.OK},
		{none, file("x\n"), file("y\n"), clash, 1, api.OK},
		{dir, file("x\n"), file("y\n"), clash, 1, api.OK},
		{file(""), file("x\n"), file("y\n"), clash, 1, api.OK},
		// No file in the hub or the spoke, ahead of all else.
		{file("1\n"), none, file("1\n"), "", 0, api.ErrDir},
		{file("1\n"), file("1\n"), none, "", 0, api.ErrDir},
		{file("1\n"), dir, file("1\n"), "", 0, api.ErrDir},
		{file("1\n"), file("1\n"), dir, "", 0, api.ErrDir},
		{none, none, none, "", 0, api.ErrDir},
		{dir, dir, dir, "", 0, api.ErrDir},
		{file(bad), file(long), dir, "", 0, api.ErrDir},
		{file(long), none, file(bad), "", 0, api.ErrDir},
		// No texts, in their order.
		{file(bad), file("1\n"), file("1\n"), "", 0, api.ErrBinary},
		{file("1\n"), file(bad), file("1\n"), "", 0, api.ErrBinary},
		{file("1\n"), file("1\n"), file(bad), "", 0, api.ErrBinary},
		{none, file(bad), file(bad), "", 0, api.ErrBinary},
		{dir, file("1\n"), file(bad), "", 0, api.ErrBinary},
		{file(long), file("1\n"), file("1\n"), "", 0, api.ErrLimit},
		{file("1\n"), file(long), file("1\n"), "", 0, api.ErrLimit},
		{file("1\n"), file("1\n"), file(long), "", 0, api.ErrLimit},
		{file(bad), file(long), file("1\n"), "", 0, api.ErrBinary},
		{file(long), file(bad), file("1\n"), "", 0, api.ErrLimit},
		{file("1\n"), file(bad), file(long), "", 0, api.ErrBinary},
		{file("1\n"), file(long), file(bad), "", 0, api.ErrLimit},
	} {
		marked(t, [3]api.Node{c.arch, c.hub, c.side}, c.want, c.conflicts, c.e)
	}
}

// 17.2: a text of MaxData bytes is one, one of a byte more is none, with a conflict or without.
func TestMarkedData(t *testing.T) {
	letters := func(letter string, n int) string { return strings.Repeat(letter, n) + "\n" }
	marks := len(merge.Ahead + merge.Middle + merge.Behind)
	const n = api.MaxData / 2
	for _, more := range []int{-1, 0, 1} {
		hub, side := letters("h", n-1), letters("s", n-1-2+more)
		clashing := letters("s", n-1-marks+more)
		e := api.OK
		if more > 0 {
			e = api.ErrLimit
		}
		for _, c := range []struct {
			nodes     [3]api.Node
			want      string
			conflicts int
		}{
			{[3]api.Node{file("0\n"), file(hub + "0\n"), file("0\n" + side)}, hub + "0\n" + side, 0},
			{[3]api.Node{none, file(hub), file(clashing)}, merge.Ahead + hub + merge.Middle + clashing + merge.Behind, 1},
		} {
			if len(c.want) != api.MaxData+more {
				t.Fatalf("%d bytes are wanted, not %d", len(c.want), api.MaxData+more)
			}
			if e != api.OK {
				c.want, c.conflicts = "", 0
			}
			marked(t, c.nodes, c.want, c.conflicts, e)
		}
	}
	whole := strings.Repeat("w", api.MaxData)
	marked(t, [3]api.Node{none, file(whole), file(whole)}, whole, 0, api.OK)
	marked(t, [3]api.Node{file("0\n"), file("0\n"), file(whole)}, whole, 0, api.OK)
	marked(t, [3]api.Node{dir, file(whole), file("")}, whole, 0, api.OK)
}

// 17.1, 17.2: what is too long when it is merged clashes; lines of it there may be more than of a text that is merged.
func TestItemsLimits(t *testing.T) {
	lines := func(s string, n int) string { return strings.Repeat(s+"\n", n) }
	for _, c := range []struct {
		arch, hub, side string
		what            int
	}{
		{"0\n", lines("x", api.MaxLines-1) + "0\n", "0\n" + lines("y", api.MaxLines-1), api.Merged},
		{"0\n", lines("x", api.MaxLines) + "0\n", "0\n" + lines("y", api.MaxLines-1), api.Clash},
		{"0\n", strings.Repeat("x", 2000) + "\n0\n", "0\n" + strings.Repeat("y", api.MaxData-2003), api.Merged},
		{"0\n", strings.Repeat("x", 2000) + "\n0\n", "0\n" + strings.Repeat("y", api.MaxData-2002), api.Clash},
	} {
		x := threes{{at("a", file(c.arch))}, {at("a", file(c.hub))}, {at("a", file(c.side))}}
		if got := held(t, x); len(got) != 1 || got[0].What != c.what {
			t.Errorf("%.40q; %.40q; %.40q: %s, want %d", c.arch, c.hub, c.side, tell(got), c.what)
		}
	}
}

// someNodes are nodes that may be, and some that may not.
func someNodes() []api.Node {
	nodes := []api.Node{none, dir, file(""), file("1\n"), file("2\n"), file("1\n2\n"), file("0\n1\n"), file("\x00"), file(strings.Repeat("1\n", api.MaxLines+1)), file(strings.Repeat("1", api.MaxData))}
	for _, kind := range []int{api.None, api.Dir, 3, -1, math.MaxInt, math.MinInt} {
		nodes = append(nodes, api.Node{Kind: kind, Data: "1\n"})
	}
	return append(nodes, file(strings.Repeat("1", 3*api.MaxData)))
}

// 17.2: Merge is Marked without a conflict, whatever the nodes; of kinds that are none there is no file.
func TestMerge(t *testing.T) {
	for _, arch := range someNodes() {
		for _, hub := range someNodes() {
			for _, side := range someNodes() {
				base := ""
				if arch.Kind == api.File {
					base = arch.Data
				}
				want, conflicts, e := merge.Merge(base, hub.Data, side.Data)
				switch {
				case hub.Kind != api.File || side.Kind != api.File:
					want, conflicts, e = "", 0, api.ErrDir
				case e == api.OK && len(want) > api.MaxData:
					want, conflicts, e = "", 0, api.ErrLimit
				}
				marked(t, [3]api.Node{arch, hub, side}, want, conflicts, e)
			}
		}
	}
}

// Rule 1: of lists that are no trees each call ends without a panic.
func TestNoTrees(t *testing.T) {
	odd := []string{"", "/", "//", "/a", "a/", "a//", "a//b", "//a", "A", "a/b", "a", "\xff", "a/b/c/d/e/f/g", strings.Repeat("/", 300), strings.Repeat("a/", 300) + "a"}
	var all [][]api.Entry
	for _, p := range odd {
		for _, n := range []api.Node{dir, none, file("1\n"), {Kind: 7}, {Kind: api.Dir, Data: "1\n"}} {
			all = append(all, []api.Entry{at(p, n)}, []api.Entry{at("", dir), at("/", dir), at("a", dir), at(p, n)}, []api.Entry{at(p, n), at("a/", dir), at("a", dir), at("a", file("2\n"))})
		}
	}
	source := rand.New(rand.NewSource(1))
	for range 2000 {
		var mixed []api.Entry
		for range source.Intn(12) {
			mixed = append(mixed, at(odd[source.Intn(len(odd))], someNodes()[source.Intn(6)]))
		}
		all = append(all, mixed)
	}
	for i, hub := range all {
		recon.Items(nil, hub, nil)
		recon.Items(hub, hub, hub)
		for range 3 {
			recon.Items(all[source.Intn(len(all))], hub, all[i/2])
			recon.Items(hub, all[source.Intn(len(all))], append(slices.Clone(hub), all[source.Intn(len(all))]...))
		}
	}
	many := make([]api.Entry, 20*api.MaxEntries)
	for i := range many {
		many[i] = at("a"+strconv.Itoa(i%1000)+strings.Repeat("/b", i%7), dir)
	}
	recon.Items(many, many[1:], many[2:])
}

// roomy answers a list with spare room that is written full, and what that was.
func roomy(t []api.Entry) (list, all []api.Entry) {
	list = append(slices.Clone(t), at("spare", dir), at("spare/room", file("s")))
	return list[:len(t)], slices.Clone(list)
}

// Rules 4 and 6: nothing that is handed in is changed or kept, and what is handed out is new.
func TestOwnMemory(t *testing.T) {
	all := lists()
	for i, t0 := range all {
		arch, wasArch := roomy(t0)
		hub, wasHub := roomy(all[(i*5+3)%len(all)])
		side, wasSide := roomy(all[(i*7+9)%len(all)])
		got := recon.Items(arch, hub, side)
		want := slices.Clone(got)
		for k, list := range [][]api.Entry{arch, hub, side} {
			if was := [][]api.Entry{wasArch, wasHub, wasSide}[k]; !slices.Equal(list[:len(was)], was) {
				t.Fatalf("list %d was changed", k)
			}
		}
		again := recon.Items(arch, hub, side)
		clear(again[:cap(again)])
		if !slices.Equal(got, want) {
			t.Fatalf("a later answer shares memory with an earlier one")
		}
		clear(arch)
		clear(hub)
		clear(side)
		if !slices.Equal(got, want) {
			t.Fatalf("an answer shares memory with an argument")
		}
		if third := recon.Items(wasArch[:len(arch)], wasHub[:len(hub)], wasSide[:len(side)]); !slices.Equal(third, want) {
			t.Fatalf("%s, then %s", tell(want), tell(third))
		}
	}
}
