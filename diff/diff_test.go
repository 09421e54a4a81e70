package diff_test

import (
	"math/rand"
	"slices"
	"strings"
	"testing"

	"tether/api"
	"tether/diff"
)

// told is all that is answered of two lists.
type told struct {
	script   []api.Edit
	kept     [][2]int
	distance int
}

// ask answers what the package tells of two lists that are within the limit.
func ask(t *testing.T, a, b []string) told {
	t.Helper()
	script, e := diff.Script(a, b)
	kept, f := diff.Kept(a, b)
	distance, g := diff.Distance(a, b)
	if e != api.OK || f != api.OK || g != api.OK {
		t.Fatalf("%.60q to %.60q: errors %d, %d, %d", a, b, e, f, g)
	}
	return told{script, kept, distance}
}

// rowsOf answers all rows of lines of a list, each as one text, with how many lines it has.
func rowsOf(list []string) map[string]int {
	rows := map[string]int{"": 0}
	for _, line := range list {
		more := map[string]int{}
		for row, n := range rows {
			more[row+line+"|"] = n + 1
		}
		for row, n := range more {
			rows[row] = n
		}
	}
	return rows
}

// longestOf is the chapter's L at the lists' beginnings, by trying all rows of both.
func longestOf(a, b []string) int {
	longest := 0
	in := rowsOf(b)
	for row, n := range rowsOf(a) {
		if _, ok := in[row]; ok {
			longest = max(longest, n)
		}
	}
	return longest
}

// modelOf walks two lists by the chapter's words, with L as it is handed in.
func modelOf(a, b []string, longest func(i, j int) int) told {
	var out told
	for i, j := 0, 0; i < len(a) || j < len(b); {
		op := api.Add
		if i < len(a) && j < len(b) && a[i] == b[j] {
			op = api.Keep
			out.kept = append(out.kept, [2]int{i, j})
			i, j = i+1, j+1
		} else if j == len(b) || i < len(a) && longest(i+1, j) >= longest(i, j+1) {
			op = api.Drop
			out.distance++
			i++
		} else {
			out.distance++
			j++
		}
		if n := len(out.script); n > 0 && out.script[n-1].Op == op {
			out.script[n-1].N++
		} else {
			out.script = append(out.script, api.Edit{Op: op, N: 1})
		}
	}
	return out
}

// alike tells whether two answers are the same, element by element.
func alike(x, y told) bool {
	return slices.Equal(x.script, y.script) && slices.Equal(x.kept, y.kept) && x.distance == y.distance
}

// replay makes the second list of the first one by a script, and fails if the script isn't one of runs.
func replay(t *testing.T, script []api.Edit, a, b []string) []string {
	t.Helper()
	var out []string
	i, j := 0, 0
	for k, run := range script {
		if run.N < 1 || k > 0 && script[k-1].Op == run.Op {
			t.Fatalf("%.60q to %.60q: runs %v", a, b, script)
		}
		switch run.Op {
		case api.Keep:
			out = append(out, a[i:i+run.N]...)
			i, j = i+run.N, j+run.N
		case api.Drop:
			i += run.N
		case api.Add:
			out = append(out, b[j:j+run.N]...)
			j += run.N
		}
	}
	if i != len(a) || j != len(b) {
		t.Fatalf("%.60q to %.60q: the script ends at %d, %d", a, b, i, j)
	}
	return out
}

// held holds all that is said of two lists against the model and against what holds of each script.
func held(t *testing.T, a, b []string, longest func(i, j int) int) {
	t.Helper()
	got := ask(t, a, b)
	if wanted := modelOf(a, b, longest); !alike(got, wanted) {
		t.Fatalf("%.60q to %.60q: %v, want %v", a, b, got, wanted)
	}
	if out := replay(t, got.script, a, b); !slices.Equal(out, b) {
		t.Fatalf("%.60q to %.60q: the script makes %.60q", a, b, out)
	}
	if n := longest(0, 0); len(got.kept) != n || got.distance != len(a)+len(b)-2*n {
		t.Fatalf("%.60q to %.60q: %d kept, distance %d, longest common row %d", a, b, len(got.kept), got.distance, n)
	}
}

// edits answers the edits of a text such as "-2 =1 +3".
func edits(s string) []api.Edit {
	var out []api.Edit
	for _, word := range strings.Fields(s) {
		n := 0
		for _, digit := range word[1:] {
			n = 10*n + int(digit-'0')
		}
		out = append(out, api.Edit{Op: strings.Index("=-+", word[:1]), N: n})
	}
	return out
}

// 12.1 to 12.3: the chapter's examples, empty lists, and lists where several scripts are equally short.
func TestExamples(t *testing.T) {
	for _, c := range []struct {
		a, b, script string
		kept         [][2]int
		distance     int
	}{
		{"a b c", "b x c", "-1 =1 +1 =1", [][2]int{{1, 0}, {2, 2}}, 2},
		{"x", "x x", "=1 +1", [][2]int{{0, 0}}, 1},
		{"a b", "c d", "-2 +2", nil, 4},
		{"", "", "", nil, 0},
		{"a", "", "-1", nil, 1},
		{"a b", "", "-2", nil, 2},
		{"", "a", "+1", nil, 1},
		{"", "a b", "+2", nil, 2},
		{"a", "a", "=1", [][2]int{{0, 0}}, 0},
		{"a b c", "a b c", "=3", [][2]int{{0, 0}, {1, 1}, {2, 2}}, 0},
		{"x x", "x", "=1 -1", [][2]int{{0, 0}}, 1},
		{"a b", "b a", "-1 =1 +1", [][2]int{{1, 0}}, 2},
		{"a x", "x a", "-1 =1 +1", [][2]int{{1, 0}}, 2},
		{"a b", "x b", "-1 +1 =1", [][2]int{{1, 1}}, 2},
		{"b", "a b", "+1 =1", [][2]int{{0, 1}}, 1},
		{"a b", "b", "-1 =1", [][2]int{{1, 0}}, 1},
		{"a b c d", "a x y d", "=1 -2 +2 =1", [][2]int{{0, 0}, {3, 3}}, 4},
		{"p a b c", "a b c p", "-1 =3 +1", [][2]int{{1, 0}, {2, 1}, {3, 2}}, 2},
		{"a b c p", "p a b c", "+1 =3 -1", [][2]int{{0, 1}, {1, 2}, {2, 3}}, 2},
		{"a b c a b b a", "c b a b a c", "-2 =1 -1 =1 +1 =2 +1", [][2]int{{2, 0}, {4, 1}, {5, 3}, {6, 4}}, 5},
	} {
		a, b := strings.Fields(c.a), strings.Fields(c.b)
		wanted := told{edits(c.script), c.kept, c.distance}
		if got := ask(t, a, b); !alike(got, wanted) {
			t.Errorf("%q to %q: %v, want %v", c.a, c.b, got, wanted)
		}
	}
}

// 12.1: the first lines are kept if they are alike, though a later one would do as well.
func TestFirstAlike(t *testing.T) {
	for _, c := range []struct {
		a, b, script string
	}{
		{"x x x", "x", "=1 -2"},
		{"x", "x x x", "=1 +2"},
		{"x a x", "x", "=1 -2"},
		{"x", "x a x", "=1 +2"},
		{"x a x b", "x b", "=1 -2 =1"},
		{"x b", "x a x b", "=1 +2 =1"},
	} {
		got, e := diff.Script(strings.Fields(c.a), strings.Fields(c.b))
		if wanted := edits(c.script); e != api.OK || !slices.Equal(got, wanted) {
			t.Errorf("%q to %q: %v, %d, want %v", c.a, c.b, got, e, wanted)
		}
	}
}

// 12.1 to 12.4: all pairs of lists of up to five lines out of three, with L by trying all rows.
func TestAll(t *testing.T) {
	lists := [][]string{nil}
	for k := 0; k < len(lists); k++ {
		if len(lists[k]) == 5 {
			break
		}
		for _, line := range []string{"a", "b", "c"} {
			lists = append(lists, append(slices.Clone(lists[k]), line))
		}
	}
	known := map[string]int{}
	for _, a := range lists {
		for _, b := range lists {
			held(t, a, b, func(i, j int) int {
				key := strings.Join(a[i:], "") + " " + strings.Join(b[j:], "")
				n, ok := known[key]
				if !ok {
					n = longestOf(a[i:], b[j:])
					known[key] = n
				}
				return n
			})
		}
	}
}

// reckoned is L of two lists by the lengths of what stands behind each place, asked for from the front.
func reckoned(a, b []string) func(i, j int) int {
	known := map[[2]int]int{}
	var longest func(i, j int) int
	longest = func(i, j int) int {
		if i == len(a) || j == len(b) {
			return 0
		}
		n, ok := known[[2]int{i, j}]
		if !ok {
			n = max(longest(i+1, j), longest(i, j+1))
			if a[i] == b[j] {
				n = max(n, longest(i+1, j+1)+1)
			}
			known[[2]int{i, j}] = n
		}
		return n
	}
	return longest
}

// someLines answers up to n random lines out of a few.
func someLines(source *rand.Rand, n, few int) []string {
	out := make([]string, source.Intn(n+1))
	for i := range out {
		out[i] = strings.Repeat("l", source.Intn(few)) + "\n"
	}
	return out
}

// changed answers a list with some lines dropped, added and put in the place of others.
func changed(source *rand.Rand, list []string, few int) []string {
	var out []string
	for _, line := range list {
		switch source.Intn(12) {
		case 0:
		case 1:
			out = append(out, line, line)
		case 2:
			out = append(out, strings.Repeat("l", source.Intn(few))+"\n")
		default:
			out = append(out, line)
		}
	}
	return out[:min(len(out), api.MaxLines)]
}

// 12.1 to 12.4: random lists of few and of many unlike lines, unlike and much alike ones.
func TestRandom(t *testing.T) {
	source := rand.New(rand.NewSource(12))
	for range 600 {
		n, few := 1+source.Intn(40), 1+source.Intn(12)
		a := someLines(source, n, few)
		b := someLines(source, n, few)
		if source.Intn(2) == 0 {
			b = changed(source, a, few)
		}
		held(t, a, b, reckoned(a, b))
	}
	for _, few := range []int{2, 9, 300} {
		a := someLines(source, api.MaxLines, few)
		b := changed(source, a, few)
		held(t, a, b, reckoned(a, b))
	}
}

// numbered answers n lines, of which each is unlike the others.
func numbered(prefix string, n int) []string {
	out := make([]string, n)
	for i := range out {
		out[i] = prefix + strings.Repeat("i", i)
	}
	return out
}

// 12.1 to 12.3: as many lines as may be in both lists.
func TestFull(t *testing.T) {
	const n = api.MaxLines
	full, other := numbered("a", n), numbered("b", n)
	empty := make([]string, n)
	for _, c := range []struct {
		a, b     []string
		script   string
		distance int
	}{
		{full, full, "=400", 0},
		{empty, empty, "=400", 0},
		{full, nil, "-400", n},
		{nil, full, "+400", n},
		{full, other, "-400 +400", 2 * n},
		{empty, full, "-400 +400", 2 * n},
		{full, empty, "-400 +400", 2 * n},
		{full, full[1:], "-1 =399", 1},
		{full[1:], full, "+1 =399", 1},
		{full, full[:n-1], "=399 -1", 1},
		{full[:n-1], full, "=399 +1", 1},
		{append(full[1:n:n], "z"), full, "+1 =399 -1", 2},
		{full, append(full[1:n:n], "z"), "-1 =399 +1", 2},
		{empty, empty[1:], "=399 -1", 1},
	} {
		got := ask(t, c.a, c.b)
		if !slices.Equal(got.script, edits(c.script)) || got.distance != c.distance {
			t.Errorf("%d lines to %d: %v, distance %d, want %s, %d", len(c.a), len(c.b), got.script, got.distance, c.script, c.distance)
		}
		if 2*len(got.kept) != len(c.a)+len(c.b)-c.distance {
			t.Errorf("%d lines to %d: %d kept", len(c.a), len(c.b), len(got.kept))
		}
	}
}

// 12.1 to 12.3: a list with more lines than may be is refused, whichever it is and whatever the other one, beside zero values.
func TestLimit(t *testing.T) {
	for _, n := range []int{api.MaxLines + 1, 2 * api.MaxLines, 1 << 20} {
		long := make([]string, n)
		for _, c := range [][2][]string{
			{long, nil}, {nil, long}, {long, long},
			{long, {"a"}}, {{"a"}, long},
			{long, long[:api.MaxLines]}, {long[:api.MaxLines], long},
		} {
			script, e := diff.Script(c[0], c[1])
			kept, f := diff.Kept(c[0], c[1])
			distance, g := diff.Distance(c[0], c[1])
			if e != api.ErrLimit || f != api.ErrLimit || g != api.ErrLimit {
				t.Errorf("%d lines to %d: errors %d, %d, %d", len(c[0]), len(c[1]), e, f, g)
			}
			if len(script) != 0 || len(kept) != 0 || distance != 0 {
				t.Errorf("%d lines to %d: %v, %v, %d beside an error", len(c[0]), len(c[1]), script, kept, distance)
			}
		}
	}
}

// 12.1: lines are alike if all of their bytes are, whatever these are; an end is one of them.
func TestBytes(t *testing.T) {
	lines := []string{"", "\x00", "\x00\x00", "\n", "a", "a\n", "A", "a ", " a", "a\r\n", "a\x00", "\xff", "\xfe", "\xef\xbf\xbd", "ä", "a\u0308", "a\nb", "0", "-1", "<nil>"}
	for i, x := range lines {
		for j, y := range lines {
			wanted := "-1 +1"
			if i == j {
				wanted = "=1"
			}
			if got := ask(t, []string{x}, []string{y}); !slices.Equal(got.script, edits(wanted)) {
				t.Errorf("%q to %q: %v, want %s", x, y, got.script, wanted)
			}
		}
	}
	for k := range lines {
		b := slices.Concat(lines[k:], lines[:k])
		held(t, lines, b, reckoned(lines, b))
	}
}

// 12.1: very long lines that differ at their ends alone, in full lists.
func TestLongLines(t *testing.T) {
	long := strings.Repeat("x", 1<<14)
	a, b := numbered(long, api.MaxLines), numbered(long, api.MaxLines)
	for i := range b {
		if i%2 == 1 {
			b[i] += "y"
		}
	}
	got := ask(t, a, b)
	if got.distance != api.MaxLines || len(got.kept) != api.MaxLines/2 || len(got.script) != 3*api.MaxLines/2 {
		t.Errorf("%d runs, %d kept, distance %d", len(got.script), len(got.kept), got.distance)
	}
}

// 12.1 to 12.3: nil and empty lists are the same, handed in and handed out.
func TestNothing(t *testing.T) {
	for _, a := range [][]string{nil, {}} {
		for _, b := range [][]string{nil, {}} {
			if got := ask(t, a, b); len(got.script) != 0 || len(got.kept) != 0 || got.distance != 0 {
				t.Errorf("nothing to nothing: %v", got)
			}
		}
		if got := ask(t, a, []string{"a"}); !alike(got, told{edits("+1"), nil, 1}) {
			t.Errorf("nothing to a: %v", got)
		}
		if got := ask(t, []string{"a"}, a); !alike(got, told{edits("-1"), nil, 1}) {
			t.Errorf("a to nothing: %v", got)
		}
	}
}

// Rule 4: lists that are handed in aren't changed, spare room included, nor if one of them is the other.
func TestGiven(t *testing.T) {
	for _, n := range []int{0, 1, 3, 5} {
		whole := strings.Fields("a b c b a spare room")
		before := slices.Clone(whole)
		ask(t, whole[:n], whole[:n])
		ask(t, whole[:n], whole[1:5])
		ask(t, whole[1:5], whole[:n])
		if !slices.Equal(whole, before) {
			t.Errorf("%q became %q", before, whole)
		}
	}
}

// Rules 4, 6: answers share no memory with earlier ones, spare room included, and asked again they are the same.
func TestNew(t *testing.T) {
	a, b := strings.Fields("a b c a b b a"), strings.Fields("c b a b a c")
	first := ask(t, a, b)
	wanted := told{slices.Clone(first.script), slices.Clone(first.kept), first.distance}
	second := ask(t, a, b)
	for i := range second.script[:cap(second.script)] {
		second.script[:cap(second.script)][i] = api.Edit{Op: 9, N: 9}
	}
	for i := range second.kept[:cap(second.kept)] {
		second.kept[:cap(second.kept)][i] = [2]int{9, 9}
	}
	if !alike(first, wanted) || !alike(ask(t, a, b), wanted) {
		t.Errorf("the first answer became %v, then %v, want %v", first, ask(t, a, b), wanted)
	}
	for i := range a {
		a[i] = "scribbled"
	}
	if !alike(first, wanted) {
		t.Errorf("behind a write into the list the answer became %v, want %v", first, wanted)
	}
}
