package plan_test

import (
	"math"
	"math/rand"
	"slices"
	"strconv"
	"strings"
	"testing"

	"tether/api"
	"tether/plan"
	"tether/tree"
)

// tellSteps answers steps as words: a path that goes has a - behind it.
func tellSteps(actions []api.Action) string {
	told := make([]string, len(actions))
	for i, a := range actions {
		told[i] = a.Path + "-"
		if a.Node != none {
			told[i] = tell([]api.Entry{at(a.Path, a.Node)})
		}
		if a.Root != 0 {
			told[i] = strconv.Itoa(a.Root) + ":" + told[i]
		}
	}
	return strings.Join(told, " ")
}

// stepped holds Actions of two trees to 18.3 and 18.7, and answers them.
func stepped(t *testing.T, old, now []api.Entry) []api.Action {
	t.Helper()
	got := plan.Actions(0, old, now)
	var want []api.Action
	paths := allPaths(old, now)
	for _, p := range slices.Backward(paths) {
		if was := node(old, p); was.Kind != api.None && node(now, p).Kind != was.Kind {
			want = append(want, api.Action{Path: p})
		}
	}
	for _, p := range paths {
		if is := node(now, p); is.Kind != api.None && is != node(old, p) {
			want = append(want, api.Action{Path: p, Node: is})
		}
	}
	if !slices.Equal(got, want) {
		t.Fatalf("%s to %s: %s, want %s", tell(old), tell(now), tellSteps(got), tellSteps(want))
	}
	if u, e := plan.Do(old, got); e != api.OK || !slices.Equal(u, now) {
		t.Fatalf("%s to %s: %d, %s", tell(old), tell(now), e, tell(u))
	}
	steady(t, old, got)
	return got
}

// steady holds that each beginning of steps leaves a tree, and that Fits goes by the trees between.
func steady(t *testing.T, old []api.Entry, actions []api.Action) {
	t.Helper()
	between, need := old, 0
	for i, a := range actions {
		next, e := plan.Do(old, actions[:i+1])
		if e != api.OK || tree.Check(next) != api.OK || node(next, a.Path) != a.Node {
			t.Fatalf("%s with %s: %d, %s", tell(old), tellSteps(actions[:i+1]), e, tell(next))
		}
		if tree.Size(next) > tree.Size(between) {
			need = max(need, tree.Size(next))
		}
		between = next
	}
	for _, room := range []int{1, need - 1, need, need + 1, math.MaxInt} {
		if got := plan.Fits(old, actions, room); got != (room <= 0 || room >= need) {
			t.Fatalf("%s with %s: %t with room %d, it needs %d", tell(old), tellSteps(actions), got, room, need)
		}
	}
}

// 18.3: the chapter's example, and each kind of step in its place.
func TestActions(t *testing.T) {
	for _, c := range []struct{ old, now, want string }{
		{"", "", ""},
		{"a/ a/x=1 b=2", "a/ a/x=1 b=2", ""},
		{"a/ a/x=1 b=2", "a=3 b=4 c=", "a/x- a- a=3 b=4 c="},
		{"a=3 b=4 c=", "a/ a/x=1 b=2", "c- a- a/ a/x=1 b=2"},
		{"", "a/ a/b/ a/b/x=1 a0=2", "a/ a/b/ a/b/x=1 a0=2"},
		{"a/ a/b/ a/b/x=1 a0=2", "", "a0- a/b/x- a/b- a-"},
		{"a=1", "a=2", "a=2"},
		{"a=1", "a=", "a="},
		{"a=1", "a/", "a- a/"},
		{"a/", "a=1", "a- a=1"},
		{"a=1", "a/ a/a=1", "a- a/ a/a=1"},
		{"a/ a/x=1 a/y=1 a_=1", "a/ a/x=2 a/z=1 a_/", "a_- a/y- a/x=2 a/z=1 a_/"},
		{"a/ a/x=1 b/", "b/ b/x=1", "a/x- a- b/x=1"},
	} {
		if got := tellSteps(stepped(t, grown(c.old), grown(c.now))); got != c.want {
			t.Errorf("%s to %s: %s, want %s", c.old, c.now, got, c.want)
		}
	}
	for _, root := range []int{0, 1, 6, 7, -1, math.MaxInt, math.MinInt} {
		got := plan.Actions(root, grown("a=1 b=1 c=1"), grown("b=2 c=1 d=1"))
		want := []api.Action{{Root: root, Path: "a"}, {Root: root, Path: "b", Node: file("2\n")}, {Root: root, Path: "d", Node: file("1\n")}}
		if !slices.Equal(got, want) {
			t.Errorf("root %d: %s", root, tellSteps(got))
		}
	}
}

// 18.3, 18.7: all pairs of small trees, and trees that are as great as may be and have nothing in common.
func TestActionsAll(t *testing.T) {
	for _, old := range lists() {
		for _, now := range lists() {
			stepped(t, old, now)
		}
	}
	whole, other := row("n", api.MaxEntries), inside("m", row("n", api.MaxEntries-1))
	if n := len(stepped(t, whole, other)); n != 2*api.MaxEntries {
		t.Errorf("%d steps", n)
	}
	stepped(t, other, whole)
}

// 18.4: each step is a Put, the first error ends it, and roots don't matter.
func TestDo(t *testing.T) {
	step := func(p string, n api.Node) api.Action { return api.Action{Path: p, Node: n} }
	long := file(strings.Repeat("1", api.MaxData+1))
	for _, c := range []struct {
		t       string
		actions []api.Action
		want    string
		e       api.Errno
	}{
		{"", nil, "", api.OK},
		{"a/ a/x=1", nil, "a/ a/x=1", api.OK},
		{"", []api.Action{step("a", dir), step("a/x", file("1\n")), step("a/x", file("2\n"))}, "a/ a/x=2", api.OK},
		{"a/ a/x=1", []api.Action{step("a/x", none), step("a", none)}, "", api.OK},
		{"a/", []api.Action{step("a", file("1\n"))}, "a=1", api.OK},
		{"a/ a/x=1", []api.Action{step("a", dir)}, "a/ a/x=1", api.OK},
		{"", []api.Action{{Root: 3, Path: "a", Node: dir}, {Root: -1, Path: "a/x", Node: dir}, {Root: math.MinInt, Path: "a/y", Node: dir}}, "a/ a/x/ a/y/", api.OK},
		{"a/ a/x=1", []api.Action{step("a", none)}, "", api.ErrDir},
		{"a/ a/x=1", []api.Action{step("a", file("1\n"))}, "", api.ErrDir},
		{"", []api.Action{step("a", none)}, "", api.ErrNone},
		{"", []api.Action{step("a/x", dir)}, "", api.ErrNone},
		{"a=1", []api.Action{step("a/x", dir)}, "", api.ErrNone},
		{"", []api.Action{step("", dir)}, "", api.ErrPath},
		{"", []api.Action{step("A", dir)}, "", api.ErrPath},
		{"", []api.Action{step("a", long)}, "", api.ErrInput},
		{"", []api.Action{step("a", api.Node{Kind: 3})}, "", api.ErrInput},
		{"", []api.Action{step("a", api.Node{Data: "1"})}, "", api.ErrInput},
		// The first error, whatever is ahead of it and behind it.
		{"", []api.Action{step("a", dir), step("a/x", dir), step("a", none), step("", dir)}, "", api.ErrDir},
		{"", []api.Action{step("", dir), step("a", none)}, "", api.ErrPath},
		{"", []api.Action{step("a", none), step("", dir)}, "", api.ErrNone},
		{"b=1", []api.Action{step("b", long), step("a", dir), step("b", none)}, "", api.ErrInput},
	} {
		got, e := plan.Do(grown(c.t), c.actions)
		if e != c.e || tell(got) != c.want || e != api.OK && got != nil {
			t.Errorf("%s with %s: %d %s, want %d %s", c.t, tellSteps(c.actions), e, tell(got), c.e, c.want)
		}
	}
	whole := row("n", api.MaxEntries)
	if _, e := plan.Do(whole, []api.Action{step("a", dir)}); e != api.ErrLimit {
		t.Errorf("an entry more than may be: %d", e)
	}
	if got, e := plan.Do(whole, []api.Action{step(whole[7].Path, none), step("a", dir)}); e != api.OK || len(got) != api.MaxEntries {
		t.Errorf("one goes and one comes: %d, %d entries", e, len(got))
	}
}

// 18.5: no step may make a tree greater than it was and than its room.
func TestFits(t *testing.T) {
	put := func(p, data string) api.Action { return api.Action{Path: p, Node: file(data)} }
	gone := func(p string) api.Action { return api.Action{Path: p} }
	five := []api.Entry{at("a", file("12")), at("b", file("345"))}
	for _, c := range []struct {
		name    string
		actions []api.Action
		room    int
		want    bool
	}{
		{"no step", nil, 1, true},
		{"to the room", []api.Action{put("c", "1")}, 6, true},
		{"past the room", []api.Action{put("c", "12")}, 6, false},
		{"no room is told", []api.Action{put("c", "12")}, 0, true},
		{"a room below 0", []api.Action{put("c", "12")}, -1, true},
		{"a room far below 0", []api.Action{put("c", "12")}, math.MinInt, true},
		{"as much room as can be", []api.Action{put("c", "12")}, math.MaxInt, true},
		{"past it already, but no greater", []api.Action{put("c", ""), {Path: "d", Node: dir}, put("a", "xy"), put("b", "xyz")}, 1, true},
		{"past it already, and smaller", []api.Action{put("b", "xy"), gone("a")}, 1, true},
		{"past it already, and greater", []api.Action{put("b", "wxyz")}, 1, false},
		{"past it still, and greater than a step ahead", []api.Action{gone("b"), put("a", "123")}, 1, false},
		{"past it between", []api.Action{put("c", "12"), gone("c")}, 6, false},
		{"room made ahead", []api.Action{gone("b"), put("c", "1234")}, 6, true},
		{"room made behind", []api.Action{put("c", "1234"), gone("b")}, 6, false},
		{"the last of several", []api.Action{put("a", ""), put("b", ""), put("c", "1234567")}, 6, false},
		{"the roots don't matter", []api.Action{{Root: 5, Path: "c", Node: file("12")}}, 6, false},
	} {
		if got := plan.Fits(five, c.actions, c.room); got != c.want {
			t.Errorf("%s: %t", c.name, got)
		}
	}
	if plan.Fits(nil, []api.Action{put("a", "12")}, 1) || !plan.Fits(nil, []api.Action{put("a", "12")}, 2) {
		t.Error("of an empty tree")
	}
}

// changed holds Changes of three trees ahead and behind to 18.6.
func changed(t *testing.T, x, y threes) []api.Change {
	t.Helper()
	old, now := [3][]api.Entry{x[1], x[2], x[0]}, [3][]api.Entry{y[1], y[2], y[0]}
	var want []api.Change
	for _, p := range allPaths(x[0], x[1], x[2], y[0], y[1], y[2]) {
		c := api.Change{Path: p, Spoke: 4}
		unlike := false
		for k := range 3 {
			c.Old[k], c.New[k] = node(old[k], p), node(now[k], p)
			unlike = unlike || c.Old[k] != c.New[k]
		}
		if unlike {
			want = append(want, c)
		}
	}
	got := plan.Changes(4, old, now)
	if !slices.Equal(got, want) {
		t.Fatalf("%s to %s: %v, want %v", x.tell(), y.tell(), got, want)
	}
	return got
}

// 18.6: what has changed in one of the three alone, in several, and in none.
func TestChanges(t *testing.T) {
	one, two := file("1\n"), file("2\n")
	type nodes = [3]api.Node
	for _, c := range []struct {
		old, now [3]string
		want     []api.Change
	}{
		{[3]string{"", "", ""}, [3]string{"", "", ""}, nil},
		{[3]string{"a=1", "a=2", "a/"}, [3]string{"a=1", "a=2", "a/"}, nil},
		{[3]string{"a=1", "a=1", "a=1"}, [3]string{"a=2", "a=1", "a=1"}, []api.Change{{Path: "a", Old: nodes{one, one, one}, New: nodes{two, one, one}}}},
		{[3]string{"a=1", "a=1", "a=1"}, [3]string{"a=1", "a=2", "a=1"}, []api.Change{{Path: "a", Old: nodes{one, one, one}, New: nodes{one, two, one}}}},
		{[3]string{"a=1", "a=1", "a=1"}, [3]string{"a=1", "a=1", "a=2"}, []api.Change{{Path: "a", Old: nodes{one, one, one}, New: nodes{one, one, two}}}},
		{[3]string{"a=1", "", "a/"}, [3]string{"a/", "a=1", ""}, []api.Change{{Path: "a", Old: nodes{one, none, dir}, New: nodes{dir, one, none}}}},
		{[3]string{"a=1", "", ""}, [3]string{"", "", ""}, []api.Change{{Path: "a", Old: nodes{one}}}},
		{[3]string{"", "", ""}, [3]string{"", "", "a="}, []api.Change{{Path: "a", New: nodes{none, none, file("")}}}},
		{[3]string{"a/ a/x=1 b=1", "a0=1", "c=1"}, [3]string{"b=1", "a0=2", "c=1 d/"}, []api.Change{{Path: "a", Old: nodes{dir}}, {Path: "a/x", Old: nodes{one}}, {Path: "a0", Old: nodes{none, one}, New: nodes{none, two}}, {Path: "d", New: nodes{none, none, dir}}}},
	} {
		var old, now [3][]api.Entry
		for k := range 3 {
			old[k], now[k] = grown(c.old[k]), grown(c.now[k])
		}
		for _, spoke := range []int{1, 6, 0, -1, math.MaxInt} {
			want := slices.Clone(c.want)
			for i := range want {
				want[i].Spoke = spoke
			}
			if got := plan.Changes(spoke, old, now); !slices.Equal(got, want) {
				t.Errorf("%v to %v: %v, want %v", c.old, c.now, got, want)
			}
		}
	}
	all := lists()
	source := rand.New(rand.NewSource(6))
	some := func() []api.Entry { return all[source.Intn(len(all))] }
	for range 5000 {
		changed(t, threes{some(), some(), some()}, threes{some(), some(), some()})
	}
}

// oddLists are lists that are no trees, and a few that are.
func oddLists() [][]api.Entry {
	odd := []string{"", "/", "//", "/a", "a/", "a//", "a//b", "//a", "A", "a/b", "a", "\xff", "a/b/c/d/e/f/g", strings.Repeat("/", 300), strings.Repeat("a/", 300) + "a"}
	kinds := []api.Node{none, dir, file("1\n"), file("2\n"), file("1\n2\n"), file("\x00"), {Kind: 7}, {Kind: -1, Data: "1\n"}, {Kind: api.Dir, Data: "1\n"}, {Data: "1"}, file(strings.Repeat("1", 3*api.MaxData))}
	var all [][]api.Entry
	for _, p := range odd {
		for _, n := range kinds {
			all = append(all, []api.Entry{at(p, n)}, []api.Entry{at("", dir), at("/", dir), at("a", dir), at(p, n)}, []api.Entry{at(p, n), at("a/", dir), at("a", dir), at("a", file("2\n"))})
		}
	}
	source := rand.New(rand.NewSource(1))
	for range 1000 {
		var mixed []api.Entry
		for range source.Intn(12) {
			mixed = append(mixed, at(odd[source.Intn(len(odd))], kinds[source.Intn(len(kinds))]))
		}
		all = append(all, mixed)
	}
	return append(all, row("n", api.MaxEntries+1), nil)
}

// Rule 1: whatever is handed in, each call ends without a panic; rule 2: with nothing beside an error.
func TestOddInputs(t *testing.T) {
	all := oddLists()
	source := rand.New(rand.NewSource(2))
	some := func() []api.Entry { return all[source.Intn(len(all))] }
	for _, list := range all {
		for _, x := range []threes{{nil, list, nil}, {list, nil, list}, {some(), list, some()}, {list, some(), append(slices.Clone(list), some()...)}} {
			if o, e := x.sync(); e != api.OK && !sameOutcome(o, plan.Outcome{}) {
				t.Fatalf("%s: something beside %d", x.tell(), e)
			}
			plan.Changes(source.Intn(9), x, threes{some(), some(), some()})
		}
		actions := plan.Actions(source.Intn(9), some(), list)
		for _, room := range []int{0, 1, 1000} {
			plan.Fits(list, actions, room)
			plan.Fits(some(), actions, room)
		}
		if u, e := plan.Do(some(), actions); e != api.OK && u != nil {
			t.Fatalf("something beside %d", e)
		}
	}
	many := make([]api.Entry, 10*api.MaxEntries)
	for i := range many {
		many[i] = at("a"+strconv.Itoa(i%1000)+strings.Repeat("/b", i%7), dir)
	}
	plan.Make(many, many[1:], many[2:])
	plan.Do(many, plan.Actions(1, many, many[1:]))
	plan.Changes(1, threes{many, many[1:]}, threes{nil, many[2:], many})
}

// roomy answers a list with spare room that is written full, and what that was.
func roomy[T any](t []T, spare T) (list, all []T) {
	list = append(slices.Clone(t), spare, spare)
	return list[:len(t)], slices.Clone(list)
}

// wiped clears a list with its spare room.
func wiped[T any](t []T) { clear(t[:cap(t)]) }

// Rules 4 and 6: Make neither changes nor keeps what is handed in, and no two lists of what it answers share memory.
func TestMakeOwnMemory(t *testing.T) {
	all := lists()
	for i := range 3 * len(all) {
		var x, was threes
		for k, pick := range []int{i, i*5 + 3, i*7 + i/9} {
			x[k], was[k] = roomy(all[pick%len(all)], at("spare", dir))
		}
		got, _ := x.sync()
		want := copied(got)
		for k, list := range x {
			if !slices.Equal(list[:len(was[k])], was[k]) {
				t.Fatalf("%s: list %d was changed", x.tell(), k)
			}
		}
		again, _ := x.sync()
		for k := range x {
			wiped(x[k])
		}
		if !sameOutcome(got, want) || !sameOutcome(again, want) {
			t.Fatalf("an answer shares memory with an argument, or two answers are unlike")
		}
		parts := []*[]api.Entry{&again.Hub, &again.Side, &again.Arch}
		for c := range again.Conflicts {
			parts = append(parts, &again.Conflicts[c].Hub, &again.Conflicts[c].Side)
		}
		for k, part := range parts {
			wiped(*part)
			for _, other := range parts[k+1:] {
				if slices.ContainsFunc(*other, func(entry api.Entry) bool { return entry.Path == "" }) {
					t.Fatalf("%s: two lists of an answer share memory", made(want).tell())
				}
			}
		}
		wiped(again.Conflicts)
		if !sameOutcome(got, want) {
			t.Fatalf("a later answer shares memory with an earlier one")
		}
	}
}

// Rules 4 and 6: neither do the others.
func TestStepsOwnMemory(t *testing.T) {
	all := lists()
	for i, list := range all {
		old, wasOld := roomy(list, at("spare", dir))
		now, wasNow := roomy(all[(i*5+3)%len(all)], at("spare", dir))
		steps := plan.Actions(2, old, now)
		wantSteps := slices.Clone(steps)
		actions, wasActions := roomy(steps, api.Action{Root: 9, Path: "spare"})
		done, e := plan.Do(old, actions)
		wantDone := slices.Clone(done)
		same, _ := plan.Do(old, nil)
		fits := plan.Fits(old, actions, 1)
		changes := plan.Changes(1, threes{old, now, old}, threes{now, old, now})
		wantChanges := slices.Clone(changes)
		if !slices.Equal(old[:len(wasOld)], wasOld) || !slices.Equal(now[:len(wasNow)], wasNow) || !slices.Equal(actions[:len(wasActions)], wasActions) {
			t.Fatalf("an argument was changed")
		}
		if again, _ := plan.Do(old, actions); true {
			wiped(again)
		}
		wiped(plan.Actions(2, old, now))
		wiped(plan.Changes(1, threes{old, now, old}, threes{now, old, now}))
		wiped(old)
		wiped(now)
		wiped(actions)
		if e != api.OK || !slices.Equal(steps, wantSteps) || !slices.Equal(done, wantDone) || !slices.Equal(changes, wantChanges) || !slices.Equal(same, list) {
			t.Fatalf("an answer shares memory with an argument or a later answer")
		}
		if plan.Fits(wasOld[:len(list)], wasActions[:len(steps)], 1) != fits {
			t.Fatalf("Fits answers unlike things of the same")
		}
	}
}
