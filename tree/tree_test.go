package tree_test

import (
	"fmt"
	"math"
	"math/rand"
	"slices"
	"strconv"
	"strings"
	"testing"

	"tether/api"
	"tether/path"
	"tether/tree"
)

var (
	none = api.Node{}
	dir  = api.Node{Kind: api.Dir}
)

func file(data string) api.Node { return api.Node{Kind: api.File, Data: data} }

func at(p string, n api.Node) api.Entry { return api.Entry{Path: p, Node: n} }

// small is the chapter's example: the folder a, the file a/x, the file a0.
func small() []api.Entry {
	return []api.Entry{at("a", dir), at("a/x", file("hi")), at("a0", file("you"))}
}

// full is a tree of so many entries: the folder a, the rest of them in it.
func full(n int) []api.Entry {
	t := []api.Entry{at("a", dir)}
	for i := range n - 1 {
		t = append(t, at("a/n"+strconv.Itoa(1000+i), file("")))
	}
	return t
}

// chained is a folder in a folder, so many deep.
func chained(deep int) []api.Entry {
	var t []api.Entry
	for i := range deep {
		t = append(t, at(strings.Repeat("a/", i)+"a", dir))
	}
	return t
}

// model is a tree as a map, and what the promises say of it told in another way.
type model map[string]api.Node

func modelOf(t []api.Entry) model {
	m := model{}
	for _, entry := range t {
		m[entry.Path] = entry.Node
	}
	return m
}

func (m model) list() []api.Entry {
	var t []api.Entry
	for p, n := range m {
		if n != none {
			t = append(t, at(p, n))
		}
	}
	slices.SortFunc(t, func(a, b api.Entry) int { return strings.Compare(a.Path, b.Path) })
	return t
}

func (m model) below(p string) int {
	count := 0
	for q := range m {
		if strings.HasPrefix(q, p+"/") {
			count++
		}
	}
	return count
}

func mayBe(n api.Node) bool {
	return n == none || n == dir || n.Kind == api.File && len(n.Data) <= api.MaxData
}

// put is 4.3, line by line.
func (m model) put(p string, n api.Node) api.Errno {
	up := strings.LastIndex(p, "/")
	switch {
	case path.Check(p, api.MaxDeep) != api.OK:
		return api.ErrPath
	case !mayBe(n):
		return api.ErrInput
	case n == none && m[p] == none:
		return api.ErrNone
	case n != none && up >= 0 && m[p[:max(up, 0)]] != dir:
		return api.ErrNone
	case n != dir && m.below(p) > 0:
		return api.ErrDir
	case n != none && m[p] == none && len(m) == api.MaxEntries:
		return api.ErrLimit
	}
	if n == none {
		delete(m, p)
	} else {
		m[p] = n
	}
	return api.OK
}

// isTree is 4.1, told of each path by itself.
func isTree(t []api.Entry) bool {
	for i, entry := range t {
		if path.Check(entry.Path, api.MaxDeep) != api.OK || !mayBe(entry.Node) || entry.Node == none {
			return false
		}
		if i > 0 && t[i-1].Path >= entry.Path {
			return false
		}
		parent := path.Parent(entry.Path)
		if parent != "" && !slices.Contains(t, at(parent, dir)) {
			return false
		}
	}
	return true
}

var (
	somePaths = []string{"a", "a/x", "a/x/y", "a/x0", "a/x/y/z", "a0", "a0/x", "a_", "b", "b/x", "b/x/a", "9", "ab/a"}
	someNodes = []api.Node{none, dir, dir, dir, file(""), file("x"), file("hi\x00\xff"), file(strings.Repeat("m", api.MaxData))}
)

// someTrees are trees of all shapes that a few paths can make.
func someTrees(source *rand.Rand, count int) [][]api.Entry {
	var out [][]api.Entry
	for range count {
		m := model{}
		for range source.Intn(30) {
			m.put(somePaths[source.Intn(len(somePaths))], someNodes[source.Intn(len(someNodes))])
		}
		out = append(out, m.list())
	}
	return out
}

// tell answers the first letters of what a test has got.
func tell(x any) string {
	return fmt.Sprintf("%.300s", fmt.Sprintf("%+q", x))
}

func wantCheck(t *testing.T, list []api.Entry, want api.Errno) {
	t.Helper()
	if got := tree.Check(list); got != want {
		t.Errorf("Check of %d entries = %d; want %d (%s)", len(list), got, want, tell(list))
	}
}

func wantTree(t *testing.T, got []api.Entry, e api.Errno, want []api.Entry) {
	t.Helper()
	if e != api.OK || !slices.Equal(got, want) {
		t.Errorf("answer = %s, %d; want %s", tell(got), e, tell(want))
	}
}

func wantError(t *testing.T, got []api.Entry, e, want api.Errno) {
	t.Helper()
	if e != want || len(got) != 0 {
		t.Errorf("answer = %s, %d; want nothing, %d", tell(got), e, want)
	}
}

// 4.1
func TestWhole(t *testing.T) {
	long := strings.Repeat("x", api.MaxData)
	for _, x := range []struct {
		n    api.Node
		want bool
	}{
		{none, true}, {dir, true}, {file(""), true}, {file("x"), true}, {file("\x00\xff"), true}, {file(long[1:]), true}, {file(long), true},
		{file(long + "x"), false}, {file(long + long), false}, {api.Node{Kind: api.None, Data: "x"}, false}, {api.Node{Kind: api.Dir, Data: "x"}, false},
		{api.Node{Kind: api.None, Data: long}, false}, {api.Node{Kind: api.Dir, Data: "\x00"}, false}, {api.Node{Kind: 3}, false}, {api.Node{Kind: 3, Data: "x"}, false},
		{api.Node{Kind: -1}, false}, {api.Node{Kind: math.MaxInt}, false}, {api.Node{Kind: math.MinInt}, false},
		{api.Node{Kind: 1 << 32}, false}, {api.Node{Kind: 1<<32 + 1}, false}, {api.Node{Kind: 1<<32 + 2, Data: "x"}, false}, {api.Node{Kind: 256 + 1}, false},
	} {
		if got := tree.Whole(x.n); got != x.want {
			t.Errorf("Whole of the kind %d with %d bytes = %t; want %t", x.n.Kind, len(x.n.Data), got, x.want)
		}
	}
}

// 4.1
func TestCheckTakesTrees(t *testing.T) {
	wantCheck(t, nil, api.OK)
	wantCheck(t, []api.Entry{}, api.OK)
	wantCheck(t, small(), api.OK)
	wantCheck(t, []api.Entry{at("a", file("")), at("b", file(strings.Repeat("x", api.MaxData)))}, api.OK)
	wantCheck(t, []api.Entry{at("a", dir), at("a/b", dir), at("a/b/c", dir), at("a/b/d", file("x")), at("a/c", dir), at("a_", dir), at("a_/b", file("x"))}, api.OK)
	wantCheck(t, []api.Entry{at("abcdefghijkl", dir), at("abcdefghijkl/abcdefghijkl", dir)}, api.OK)
	wantCheck(t, chained(api.MaxDeep), api.OK)
	for _, x := range someTrees(rand.New(rand.NewSource(41)), 200) {
		wantCheck(t, x, api.OK)
	}
}

// 4.1
func TestCheckCountsEntries(t *testing.T) {
	for _, n := range []int{1, api.MaxEntries - 1, api.MaxEntries} {
		wantCheck(t, full(n), api.OK)
	}
	for _, n := range []int{api.MaxEntries + 1, api.MaxEntries + 2, 3 * api.MaxEntries} {
		wantCheck(t, full(n), api.ErrLimit)
	}
	// ErrLimit is named ahead of ErrForm.
	wantCheck(t, make([]api.Entry, api.MaxEntries), api.ErrForm)
	wantCheck(t, make([]api.Entry, api.MaxEntries+1), api.ErrLimit)
	wantCheck(t, make([]api.Entry, 1<<20), api.ErrLimit)
}

// 4.1
func TestCheckRefusesPaths(t *testing.T) {
	for _, p := range []string{"", "/", "/a", "a/", "a//b", "A", "a.b", "abcdefghijklm", "ä", "\xff", "a b", "a\x00"} {
		wantCheck(t, []api.Entry{at(p, dir)}, api.ErrForm)
		wantCheck(t, []api.Entry{at(p, file("x"))}, api.ErrForm)
	}
	for _, p := range []string{"a/", "a//b", "a/B", "a/abcdefghijklm", "a/\xff"} {
		wantCheck(t, []api.Entry{at("a", dir), at(p, dir)}, api.ErrForm)
	}
	wantCheck(t, chained(api.MaxDeep+1), api.ErrForm)
	deep := chained(api.MaxDeep)
	wantCheck(t, append(deep, at(deep[api.MaxDeep-1].Path+"/b", file("x"))), api.ErrForm)
}

// 4.1
func TestCheckRefusesPathsThatDoNotRise(t *testing.T) {
	wantCheck(t, []api.Entry{at("b", dir), at("a", dir)}, api.ErrForm)
	wantCheck(t, []api.Entry{at("a", dir), at("a", dir)}, api.ErrForm)
	wantCheck(t, []api.Entry{at("a", file("1")), at("a", file("2"))}, api.ErrForm)
	wantCheck(t, []api.Entry{at("a", dir), at("a0", dir), at("a/x", dir)}, api.ErrForm)
	wantCheck(t, []api.Entry{at("a/x", dir), at("a", dir)}, api.ErrForm)
	wantCheck(t, []api.Entry{at("a", dir), at("b", dir), at("c", dir), at("b/x", dir)}, api.ErrForm)
	for i := range 2 {
		turned := small()
		turned[i], turned[i+1] = turned[i+1], turned[i]
		wantCheck(t, turned, api.ErrForm)
	}
}

// 4.1
func TestCheckRefusesNodes(t *testing.T) {
	for _, n := range []api.Node{
		none, {Kind: 3}, {Kind: -1}, {Kind: api.Dir, Data: "x"}, {Kind: api.None, Data: "x"}, {Kind: 1<<32 + 1}, file(strings.Repeat("x", api.MaxData+1)),
	} {
		for i := range 3 {
			list := small()
			list[i].Node = n
			wantCheck(t, list, api.ErrForm)
		}
		wantCheck(t, []api.Entry{at("a", n)}, api.ErrForm)
	}
}

// 4.1
func TestCheckAsksForFolders(t *testing.T) {
	wantCheck(t, []api.Entry{at("a/x", file("x"))}, api.ErrForm)
	wantCheck(t, []api.Entry{at("a", file("")), at("a/x", file("x"))}, api.ErrForm)
	wantCheck(t, []api.Entry{at("a", dir), at("a/x/y", file("x"))}, api.ErrForm)
	wantCheck(t, []api.Entry{at("a", dir), at("a/x", file("")), at("a/x/y", file("x"))}, api.ErrForm)
	wantCheck(t, []api.Entry{at("a", dir), at("ab/x", file("x"))}, api.ErrForm)
	wantCheck(t, []api.Entry{at("a", dir), at("a0/x", dir)}, api.ErrForm)
	wantCheck(t, []api.Entry{at("a", dir), at("b/x", dir), at("c", dir)}, api.ErrForm)
}

// 4.1
func TestCheckOfAnyLists(t *testing.T) {
	source := rand.New(rand.NewSource(4))
	paths := []string{"a", "a/x", "a/x/y", "a0", "b", "b/x", "c", "", "a/", "C"}
	nodes := []api.Node{dir, dir, dir, dir, dir, file("x"), file(""), none, {Kind: 3}}
	good := 0
	for range 20000 {
		var list []api.Entry
		for _, p := range paths {
			if source.Intn(3) == 0 {
				list = append(list, at(p, nodes[source.Intn(len(nodes))]))
			}
		}
		if len(list) > 1 && source.Intn(8) == 0 {
			i := source.Intn(len(list) - 1)
			list[i], list[i+1] = list[i+1], list[i]
		}
		want := api.ErrForm
		if isTree(list) {
			want = api.OK
			good++
		}
		wantCheck(t, list, want)
	}
	if good < 1000 {
		t.Errorf("only %d lists were trees", good)
	}
}

// 4.2
func TestGet(t *testing.T) {
	for _, x := range []struct {
		p    string
		want api.Node
	}{
		{"a", dir}, {"a/x", file("hi")}, {"a0", file("you")}, {"", none}, {"/", none}, {"a/", none}, {"x", none}, {"a/x/y", none}, {"a/w", none}, {"a/y", none},
		{"0", none}, {"z", none}, {"A", none}, {"\xff", none}, {"a\x00", none}, {"a.", none}, {"a00", none},
	} {
		if got := tree.Get(small(), x.p); got != x.want {
			t.Errorf("Get(%q) = %v; want %v", x.p, got, x.want)
		}
		if got := tree.Get(nil, x.p); got != none {
			t.Errorf("Get(%q) of no tree = %v", x.p, got)
		}
	}
	big := full(api.MaxEntries)
	for i, entry := range big {
		big[i].Node = file(entry.Path)
	}
	big[0].Node = dir
	for _, entry := range big {
		if got := tree.Get(big, entry.Path); got != entry.Node {
			t.Errorf("Get(%q) = %v", entry.Path, got)
		}
		if got := tree.Get(big, entry.Path+"0"); got != none {
			t.Errorf("Get(%q0) = %v", entry.Path, got)
		}
	}
}

// 4.2
func TestSub(t *testing.T) {
	list := []api.Entry{at("a", dir), at("a/b", dir), at("a/b/c", file("1")), at("a/bc", file("2")), at("a0", dir), at("a0/b", file("3")), at("a_", file("4")), at("b", dir)}
	for _, x := range []struct {
		p        string
		from, to int
	}{
		{"", 0, 8}, {"a", 0, 4}, {"a/b", 1, 3}, {"a/b/c", 2, 3}, {"a/bc", 3, 4}, {"a0", 4, 6}, {"a0/b", 5, 6}, {"a_", 6, 7}, {"b", 7, 8},
		{"c", 0, 0}, {"a/", 0, 0}, {"/", 0, 0}, {"a/b/", 0, 0}, {"a/c", 0, 0}, {"a/b/c/d", 0, 0}, {"0", 0, 0}, {"ab", 0, 0}, {"b/x", 0, 0}, {"A", 0, 0}, {"\xff", 0, 0},
	} {
		if got := tree.Sub(list, x.p); !slices.Equal(got, list[x.from:x.to]) {
			t.Errorf("Sub(%q) = %v; want %v", x.p, got, list[x.from:x.to])
		}
		if got := tree.Sub(nil, x.p); len(got) != 0 {
			t.Errorf("Sub(%q) of no tree = %v", x.p, got)
		}
	}
}

// 4.3, with the chapter's examples
func TestPut(t *testing.T) {
	x := small()
	for _, c := range []struct {
		p    string
		n    api.Node
		want []api.Entry
	}{
		{"a", dir, x},
		{"a/x", file("hi"), x},
		{"a/x", file("ho"), []api.Entry{x[0], at("a/x", file("ho")), x[2]}},
		{"a/x", dir, []api.Entry{x[0], at("a/x", dir), x[2]}},
		{"a/x", none, []api.Entry{x[0], x[2]}},
		{"a0", none, []api.Entry{x[0], x[1]}},
		{"a0", dir, []api.Entry{x[0], x[1], at("a0", dir)}},
		{"a/w", file(""), []api.Entry{x[0], at("a/w", file("")), x[1], x[2]}},
		{"a/y", dir, []api.Entry{x[0], x[1], at("a/y", dir), x[2]}},
		{"9", file("n"), []api.Entry{at("9", file("n")), x[0], x[1], x[2]}},
		{"b", dir, []api.Entry{x[0], x[1], x[2], at("b", dir)}},
		{"b", file(strings.Repeat("x", api.MaxData)), []api.Entry{x[0], x[1], x[2], at("b", file(strings.Repeat("x", api.MaxData)))}},
		{"abcdefghijkl", dir, []api.Entry{x[0], x[1], x[2], at("abcdefghijkl", dir)}},
	} {
		got, e := tree.Put(x, c.p, c.n)
		wantTree(t, got, e, c.want)
	}
	got, e := tree.Put(nil, "a", file("x"))
	wantTree(t, got, e, []api.Entry{at("a", file("x"))})
	got, e = tree.Put([]api.Entry{at("a", file("x"))}, "a", none)
	wantTree(t, got, e, nil)
	got, e = tree.Put(chained(api.MaxDeep-1), chained(api.MaxDeep)[api.MaxDeep-1].Path, dir)
	wantTree(t, got, e, chained(api.MaxDeep))
}

// 4.3
func TestPutRefuses(t *testing.T) {
	bad := api.Node{Kind: 3}
	deep := chained(api.MaxDeep)
	tooDeep := deep[api.MaxDeep-1].Path + "/a"
	for _, x := range []struct {
		t    []api.Entry
		p    string
		n    api.Node
		want api.Errno
	}{
		{small(), "", dir, api.ErrPath}, {small(), "A", dir, api.ErrPath}, {small(), "a/", none, api.ErrPath}, {small(), "/a", none, api.ErrPath},
		{small(), "abcdefghijklm", file("x"), api.ErrPath}, {deep, tooDeep, dir, api.ErrPath}, {deep, tooDeep, none, api.ErrPath}, {nil, "", none, api.ErrPath},
		{small(), "A", bad, api.ErrPath}, {deep, tooDeep, bad, api.ErrPath},
		{small(), "b", bad, api.ErrInput}, {small(), "b", api.Node{Kind: api.Dir, Data: "x"}, api.ErrInput}, {small(), "a0", api.Node{Data: "x"}, api.ErrInput},
		{small(), "b", file(strings.Repeat("x", api.MaxData+1)), api.ErrInput}, {small(), "b/x", bad, api.ErrInput}, {small(), "a", bad, api.ErrInput},
		{small(), "b", api.Node{Data: "x"}, api.ErrInput}, {full(api.MaxEntries), "b", bad, api.ErrInput},
		{small(), "b", none, api.ErrNone}, {small(), "a/y", none, api.ErrNone}, {small(), "b/x", none, api.ErrNone}, {small(), "a0/x", none, api.ErrNone}, {nil, "a", none, api.ErrNone},
		{small(), "b/x", file("x"), api.ErrNone}, {small(), "a0/x", file("x"), api.ErrNone}, {small(), "b/x", dir, api.ErrNone}, {small(), "a0/x", dir, api.ErrNone},
		{small(), "a/x/y", dir, api.ErrNone}, {small(), "a/y/z", dir, api.ErrNone}, {nil, "a/b", dir, api.ErrNone},
		{full(api.MaxEntries), "b/x", file("x"), api.ErrNone}, {full(api.MaxEntries), "a/n1000/x", dir, api.ErrNone}, {full(api.MaxEntries), "b", none, api.ErrNone},
		{small(), "a", file("x"), api.ErrDir}, {small(), "a", none, api.ErrDir}, {small(), "a", file(""), api.ErrDir}, {deep, "a/a", file("x"), api.ErrDir}, {deep, "a/a/a", none, api.ErrDir},
		{full(api.MaxEntries), "a", file("x"), api.ErrDir}, {full(api.MaxEntries), "a", none, api.ErrDir},
		{full(api.MaxEntries), "b", dir, api.ErrLimit}, {full(api.MaxEntries), "b", file("x"), api.ErrLimit}, {full(api.MaxEntries), "a/m", file(""), api.ErrLimit}, {full(api.MaxEntries), "0", dir, api.ErrLimit},
	} {
		got, e := tree.Put(x.t, x.p, x.n)
		if e != x.want || len(got) != 0 {
			t.Errorf("Put(%d entries, %q, kind %d) = %d entries, %d; want %d", len(x.t), x.p, x.n.Kind, len(got), e, x.want)
		}
	}
}

// 4.3: a full tree takes what needs no new entry, and one less than full takes one.
func TestPutIntoFullTrees(t *testing.T) {
	list := full(api.MaxEntries)
	want := slices.Clone(list)
	want[1].Node = dir
	got, e := tree.Put(list, list[1].Path, dir)
	wantTree(t, got, e, want)
	got, e = tree.Put(list, "a", dir)
	wantTree(t, got, e, list)
	got, e = tree.Put(list, list[api.MaxEntries-1].Path, none)
	wantTree(t, got, e, full(api.MaxEntries-1))
	got, e = tree.Put(got, list[api.MaxEntries-1].Path, file(""))
	wantTree(t, got, e, list)
}

// 4.4
func TestReplace(t *testing.T) {
	x := []api.Entry{at("a", dir), at("a/b", dir), at("a/b/c", file("1")), at("a/d", file("2")), at("a0", file("3")), at("b", dir)}
	for _, c := range []struct {
		p         string
		sub, want []api.Entry
	}{
		{"a", nil, x[4:]},
		{"a", []api.Entry{}, x[4:]},
		{"a", x[:4], x},
		{"a", []api.Entry{x[3], x[1], x[0], x[2]}, x},
		{"a", []api.Entry{at("a", file("n"))}, []api.Entry{at("a", file("n")), x[4], x[5]}},
		{"a", []api.Entry{at("a/z", file("n")), at("a", dir), at("a/x", dir)}, []api.Entry{at("a", dir), at("a/x", dir), at("a/z", file("n")), x[4], x[5]}},
		{"a/b", nil, []api.Entry{x[0], x[3], x[4], x[5]}},
		{"a/b", []api.Entry{at("a/b", file("n"))}, []api.Entry{x[0], at("a/b", file("n")), x[3], x[4], x[5]}},
		{"a/b/c", []api.Entry{at("a/b/c/d", file("n")), at("a/b/c", dir)}, []api.Entry{x[0], x[1], at("a/b/c", dir), at("a/b/c/d", file("n")), x[3], x[4], x[5]}},
		{"c", nil, x},
		{"c", []api.Entry{at("c/d", dir), at("c", dir)}, append(slices.Clone(x), at("c", dir), at("c/d", dir))},
		{"9", []api.Entry{at("9", dir)}, append([]api.Entry{at("9", dir)}, x...)},
		{"c/d", nil, x},
		{"a0/x", nil, x},
		{"b", []api.Entry{at("b", dir)}, x},
	} {
		got, e := tree.Replace(x, c.p, c.sub)
		wantTree(t, got, e, c.want)
	}
	got, e := tree.Replace(small(), "a", []api.Entry{at("a", file("n"))})
	wantTree(t, got, e, []api.Entry{at("a", file("n")), at("a0", file("you"))})
	got, e = tree.Replace(nil, "a", nil)
	wantTree(t, got, e, nil)
	got, e = tree.Replace(full(api.MaxEntries), "a", nil)
	wantTree(t, got, e, nil)
	got, e = tree.Replace(full(api.MaxEntries), "a", full(api.MaxEntries))
	wantTree(t, got, e, full(api.MaxEntries))
}

// 4.4
func TestReplaceRefuses(t *testing.T) {
	bad := []api.Entry{at("b", dir)}
	deep := chained(api.MaxDeep)
	tooDeep := deep[api.MaxDeep-1].Path + "/a"
	tooMany := make([]api.Entry, api.MaxEntries)
	for i := range tooMany {
		tooMany[i] = at("b", dir)
	}
	for i, x := range []struct {
		t    []api.Entry
		p    string
		sub  []api.Entry
		want api.Errno
	}{
		{small(), "", nil, api.ErrPath}, {small(), "", small(), api.ErrPath}, {small(), "A", bad, api.ErrPath}, {small(), "a/", nil, api.ErrPath}, {small(), "/", nil, api.ErrPath},
		{deep, tooDeep, nil, api.ErrPath}, {deep, tooDeep, []api.Entry{at(tooDeep, dir)}, api.ErrPath},
		{small(), "a", bad, api.ErrInput}, {small(), "a", []api.Entry{at("a", dir), at("a0", dir)}, api.ErrInput}, {small(), "a/x", []api.Entry{at("a", dir)}, api.ErrInput},
		{small(), "a", []api.Entry{at("", dir)}, api.ErrInput}, {small(), "a", []api.Entry{at("A", none)}, api.ErrInput}, {small(), "a", []api.Entry{at("a/y", dir), at("ab", dir), at("a", dir)}, api.ErrInput},
		{full(api.MaxEntries), "a", bad, api.ErrInput},
		{small(), "a", []api.Entry{at("a/y", dir)}, api.ErrForm}, {small(), "b/c", []api.Entry{at("b/c", dir)}, api.ErrForm}, {small(), "a0/c", []api.Entry{at("a0/c", dir)}, api.ErrForm},
		{small(), "b", []api.Entry{at("b", dir), at("b", dir)}, api.ErrForm}, {small(), "b", []api.Entry{at("b", none)}, api.ErrForm}, {small(), "b", []api.Entry{at("b", api.Node{Kind: 3})}, api.ErrForm},
		{small(), "b", []api.Entry{at("b", file("")), at("b/c", file(""))}, api.ErrForm}, {small(), "b", []api.Entry{at("b", dir), at("b//c", dir)}, api.ErrForm}, {small(), "b", []api.Entry{at("b", dir), at("b/C", dir)}, api.ErrForm},
		{small(), "b", []api.Entry{at("b", file(strings.Repeat("x", api.MaxData+1)))}, api.ErrForm}, {deep, "a", append(deep[:len(deep):len(deep)], at(tooDeep, dir)), api.ErrForm},
		{full(api.MaxEntries), "b", bad, api.ErrLimit}, {small(), "a", full(api.MaxEntries), api.ErrLimit}, {small()[2:], "b", tooMany, api.ErrLimit},
		{nil, "a", full(api.MaxEntries + 1), api.ErrLimit}, {nil, "b", append(slices.Clone(tooMany), bad...), api.ErrLimit}, {nil, "b", tooMany, api.ErrForm},
	} {
		got, e := tree.Replace(x.t, x.p, x.sub)
		if e != x.want || len(got) != 0 {
			t.Errorf("Replace %d (%q) = %d entries, %d; want %d", i, x.p, len(got), e, x.want)
		}
	}
}

// 4.4: of any subs, what isn't under the path and the sub, sorted, or Check's error.
func TestReplaceOfAnySubs(t *testing.T) {
	source := rand.New(rand.NewSource(44))
	list := someTrees(source, 2000)
	good := 0
	for i, x := range list {
		p := somePaths[source.Intn(len(somePaths))]
		sub := tree.Sub(list[(i+1)%len(list)], p)
		if len(sub) > 1 && source.Intn(4) == 0 {
			sub = sub[1:]
		}
		source.Shuffle(len(sub), func(i, j int) { sub[i], sub[j] = sub[j], sub[i] })
		m := modelOf(x)
		for q := range modelOf(x) {
			if q == p || strings.HasPrefix(q, p+"/") {
				delete(m, q)
			}
		}
		for _, entry := range sub {
			m[entry.Path] = entry.Node
		}
		got, e := tree.Replace(x, p, sub)
		if want := m.list(); isTree(want) {
			wantTree(t, got, e, want)
			good++
		} else {
			wantError(t, got, e, api.ErrForm)
		}
	}
	if good < 500 {
		t.Errorf("only %d replaced", good)
	}
}

// 4.5
func TestSame(t *testing.T) {
	x := small()
	for i, c := range []struct {
		a, b []api.Entry
		want bool
	}{
		{nil, nil, true}, {nil, []api.Entry{}, true}, {x, small(), true}, {full(api.MaxEntries), full(api.MaxEntries), true}, {x, nil, false}, {x, x[:2], false}, {x, x[1:], false},
		{x, []api.Entry{x[0], x[1], at("a0", file("yo_"))}, false}, {x, []api.Entry{x[0], x[1], at("a1", file("you"))}, false},
		{x, []api.Entry{x[0], at("a/x", dir), x[2]}, false}, {[]api.Entry{at("a", dir)}, []api.Entry{at("a", file(""))}, false},
	} {
		if got := tree.Same(c.a, c.b); got != c.want {
			t.Errorf("Same %d = %t; want %t", i, got, c.want)
		}
		if got := tree.Same(c.b, c.a); got != c.want {
			t.Errorf("Same %d, turned = %t; want %t", i, got, c.want)
		}
	}
}

// 4.5
func TestSize(t *testing.T) {
	long := strings.Repeat("x", api.MaxData)
	for want, list := range map[int][]api.Entry{0: nil, 5: small(), 2: small()[:2], 1: {at("a", dir), at("b", file("\xff"))}, 2*api.MaxData + 2: {at("a", file(long)), at("b", file("ä")), at("c", file("")), at("d", file(long))}} {
		if got := tree.Size(list); got != want {
			t.Errorf("Size = %d; want %d", got, want)
		}
	}
	if got := tree.Size(chained(api.MaxDeep)); got != 0 {
		t.Errorf("Size of folders = %d", got)
	}
	most := full(api.MaxEntries)
	for i := range most[1:] {
		most[i+1].Node = file(long)
	}
	if got := tree.Size(most); got != (api.MaxEntries-1)*api.MaxData {
		t.Errorf("Size of the greatest = %d", got)
	}
}

// 4.5
func TestDiff(t *testing.T) {
	x := small()
	for i, c := range []struct {
		a, b []api.Entry
		want []string
	}{
		{nil, nil, nil}, {x, small(), nil}, {x, nil, []string{"a", "a/x", "a0"}}, {nil, x, []string{"a", "a/x", "a0"}},
		{x, []api.Entry{x[0], at("a/x", file("ho")), x[2]}, []string{"a/x"}}, {x, []api.Entry{x[0], at("a/x", dir), x[2]}, []string{"a/x"}},
		{x, []api.Entry{at("a", file("")), x[2]}, []string{"a", "a/x"}},
		{[]api.Entry{at("b", dir), at("d", dir)}, []api.Entry{at("a", dir), at("c", dir), at("d", file(""))}, []string{"a", "b", "c", "d"}},
		{[]api.Entry{at("a", dir), at("a0", dir)}, []api.Entry{at("a", dir), at("a/x", dir), at("a0", dir)}, []string{"a/x"}},
	} {
		if got := tree.Diff(c.a, c.b); !slices.Equal(got, c.want) {
			t.Errorf("Diff %d = %q; want %q", i, got, c.want)
		}
		if got := tree.Diff(c.b, c.a); !slices.Equal(got, c.want) {
			t.Errorf("Diff %d, turned = %q; want %q", i, got, c.want)
		}
	}
}

// 4.5: of any trees; and they are the same if nothing is unlike.
func TestDiffOfAnyTrees(t *testing.T) {
	list := someTrees(rand.New(rand.NewSource(45)), 300)
	list = append(list, list[:20]...)
	for i, a := range list {
		b := list[(i+20)%len(list)]
		var want []string
		for _, p := range somePaths {
			if modelOf(a)[p] != modelOf(b)[p] {
				want = append(want, p)
			}
		}
		slices.Sort(want)
		if got := tree.Diff(a, b); !slices.Equal(got, want) {
			t.Errorf("Diff = %q; want %q", got, want)
		}
		if got := tree.Same(a, b); got != (len(want) == 0) {
			t.Errorf("Same = %t, while %q are unlike", got, want)
		}
	}
}

// 4.6, 4.3: put by put the tree is the model's, is a tree, and is as it was with what stood there put back.
func TestPutsOneByOne(t *testing.T) {
	source := rand.New(rand.NewSource(46))
	counts := map[api.Errno]int{}
	var x []api.Entry
	m := model{}
	for range 20000 {
		p, n := somePaths[source.Intn(len(somePaths))], someNodes[source.Intn(len(someNodes))]
		old := m[p]
		want := m.put(p, n)
		counts[want]++
		y, e := tree.Put(x, p, n)
		if want != api.OK {
			wantError(t, y, e, want)
			continue
		}
		wantTree(t, y, e, m.list())
		wantCheck(t, y, api.OK)
		if tree.Get(y, p) != n {
			t.Errorf("%s was put at %q, got is %s", tell(n), p, tell(tree.Get(y, p)))
		}
		back, e := tree.Put(y, p, old)
		wantTree(t, back, e, x)
		x = y
	}
	for _, e := range []api.Errno{api.OK, api.ErrNone, api.ErrDir} {
		if counts[e] < 1000 {
			t.Errorf("%d puts answered %d", counts[e], e)
		}
	}
}

// 4.6: what was replaced is a tree, and what stood there put back in its place makes it as it was.
func TestReplaceAndBack(t *testing.T) {
	source := rand.New(rand.NewSource(47))
	for _, x := range someTrees(source, 1000) {
		p := somePaths[source.Intn(len(somePaths))]
		old := tree.Sub(x, p)
		y, e := tree.Replace(x, p, []api.Entry{at(p, dir)})
		if parent := path.Parent(p); parent != "" && tree.Get(x, parent) != dir {
			wantError(t, y, e, api.ErrForm)
			continue
		}
		wantCheck(t, y, api.OK)
		if sub := tree.Sub(y, p); len(sub) != 1 || sub[0] != at(p, dir) {
			t.Errorf("%q was replaced, there stands %s", p, tell(sub))
		}
		back, e := tree.Replace(y, p, old)
		wantTree(t, back, e, x)
	}
}

// roomy answers a list of so many entries with spare room behind it, and that room.
func roomy(list []api.Entry) (used, all []api.Entry) {
	all = append(slices.Clone(list), slices.Repeat([]api.Entry{at("spare", file("room"))}, 8)...)
	return all[:len(list)], all
}

// scribble writes over a list and all of its spare room.
func scribble(list []api.Entry) {
	for i := range list[:cap(list)] {
		list[:cap(list)][i] = at("scribbled", file("over"))
	}
}

// The rule 4: what is handed in isn't changed or kept, and what is handed out is new memory.
func TestAnswersShareNothing(t *testing.T) {
	calls := map[string]func(list, sub []api.Entry) []api.Entry{
		"Sub":                   func(list, sub []api.Entry) []api.Entry { return tree.Sub(list, "") },
		"Sub of a":              func(list, sub []api.Entry) []api.Entry { return tree.Sub(list, "a") },
		"Put of the same":       func(list, sub []api.Entry) []api.Entry { x, _ := tree.Put(list, "a", dir); return x },
		"Put behind":            func(list, sub []api.Entry) []api.Entry { x, _ := tree.Put(list, "z", dir); return x },
		"Put ahead":             func(list, sub []api.Entry) []api.Entry { x, _ := tree.Put(list, "0", dir); return x },
		"Put of nothing":        func(list, sub []api.Entry) []api.Entry { x, _ := tree.Put(list, "a0", none); return x },
		"Put of nothing within": func(list, sub []api.Entry) []api.Entry { x, _ := tree.Put(list, "a/x", none); return x },
		"Replace":               func(list, sub []api.Entry) []api.Entry { x, _ := tree.Replace(list, "a", sub); return x },
		"Replace by nothing":    func(list, sub []api.Entry) []api.Entry { x, _ := tree.Replace(list, "a", nil); return x },
		"Replace of nothing":    func(list, sub []api.Entry) []api.Entry { x, _ := tree.Replace(nil, "a", sub); return x },
		"Replace without need":  func(list, sub []api.Entry) []api.Entry { x, _ := tree.Replace(list, "z", nil); return x },
		"Replace, refused":      func(list, sub []api.Entry) []api.Entry { x, _ := tree.Replace(list, "b", sub); return x },
	}
	for name, call := range calls {
		list, wholeList := roomy(small())
		sub, wholeSub := roomy([]api.Entry{at("a/y", file("y")), at("a", dir)})
		oldList, oldSub := slices.Clone(wholeList), slices.Clone(wholeSub)
		got := call(list, sub)
		want := slices.Clone(got)
		if !slices.Equal(wholeList, oldList) || !slices.Equal(wholeSub, oldSub) {
			t.Errorf("%s changes its arguments", name)
		}
		again := call(list, sub)
		scribble(got)
		if !slices.Equal(wholeList, oldList) || !slices.Equal(wholeSub, oldSub) || !slices.Equal(again, want) {
			t.Errorf("%s hands out memory that isn't its own", name)
		}
		scribble(wholeList)
		scribble(wholeSub)
		if !slices.Equal(again, want) {
			t.Errorf("%s keeps its arguments", name)
		}
	}
}

// The rule 1: no call panics, not even of lists that are no trees.
func TestNothingPanics(t *testing.T) {
	source := rand.New(rand.NewSource(48))
	texts := append(slices.Clone(somePaths), "", "/", "a/", "a//b", "A", "\xff", strings.Repeat("a/", 50))
	nodes := append(slices.Clone(someNodes), api.Node{Kind: -1}, api.Node{Kind: math.MaxInt, Data: "x"}, api.Node{Data: "x"})
	anyList := func() []api.Entry {
		var list []api.Entry
		for range source.Intn(8) {
			list = append(list, at(texts[source.Intn(len(texts))], nodes[source.Intn(len(nodes))]))
		}
		return list
	}
	for range 5000 {
		a, b, p, n := anyList(), anyList(), texts[source.Intn(len(texts))], nodes[source.Intn(len(nodes))]
		tree.Check(a)
		tree.Whole(n)
		tree.Get(a, p)
		tree.Sub(a, p)
		tree.Put(a, p, n)
		tree.Replace(a, p, b)
		tree.Same(a, b)
		tree.Size(a)
		tree.Diff(a, b)
	}
}
