package hunk_test

import (
	"math"
	"math/rand"
	"slices"
	"strconv"
	"strings"
	"testing"

	"tether/api"
	"tether/diff"
	"tether/hunk"
)

// words answers the words of a text as lines.
func words(s string) []string {
	return strings.Fields(s)
}

// tell answers a hunk as a text such as "7 h > h i".
func tell(h api.Hunk) string {
	return strconv.Itoa(h.At) + " " + strings.Join(h.Old, " ") + " > " + strings.Join(h.New, " ")
}

// tellAll answers hunks as one text.
func tellAll(hunks []api.Hunk) string {
	told := make([]string, len(hunks))
	for i, h := range hunks {
		told[i] = tell(h)
	}
	return strings.Join(told, "; ")
}

// same tells whether hunks are alike, element by element.
func same(x, y []api.Hunk) bool {
	return slices.EqualFunc(x, y, func(p, q api.Hunk) bool {
		return p.At == q.At && slices.Equal(p.Old, q.Old) && slices.Equal(p.New, q.New)
	})
}

// copied answers hunks in memory of their own.
func copied(hunks []api.Hunk) []api.Hunk {
	out := slices.Clone(hunks)
	for i := range out {
		out[i].Old, out[i].New = slices.Clone(out[i].Old), slices.Clone(out[i].New)
	}
	return out
}

// between answers the hunks of two lists that are within the limit.
func between(t *testing.T, a, b []string, around int) []api.Hunk {
	t.Helper()
	hunks, e := hunk.Between(a, b, around)
	if e != api.OK {
		t.Fatalf("%.60q to %.60q, %d around: error %d", a, b, around, e)
	}
	return hunks
}

// line is a line of either list, as the script goes through them.
type line struct {
	op, i, j int
	taken    bool
}

// written answers a script line by line.
func written(t *testing.T, a, b []string) []line {
	t.Helper()
	script, e := diff.Script(a, b)
	if e != api.OK {
		t.Fatal(e)
	}
	var out []line
	i, j := 0, 0
	for _, run := range script {
		for range run.N {
			out = append(out, line{op: run.Op, i: i, j: j})
			if run.Op != api.Add {
				i++
			}
			if run.Op != api.Drop {
				j++
			}
		}
	}
	return out
}

// take marks each line that is changed, or not further than around from one that is.
func take(all []line, around int) {
	for k := range all {
		for n := range all {
			far := max(k-n, n-k)
			if all[n].op != api.Keep && (far == 0 || all[k].op == api.Keep && far <= around) {
				all[k].taken = true
			}
		}
	}
}

// model answers the hunks of two lists as the longest rows of lines that are taken.
func model(t *testing.T, a, b []string, around int) []api.Hunk {
	t.Helper()
	all := written(t, a, b)
	take(all, around)
	var out []api.Hunk
	for k, l := range all {
		if !l.taken {
			continue
		}
		if k == 0 || !all[k-1].taken {
			out = append(out, api.Hunk{At: l.i})
		}
		h := &out[len(out)-1]
		if l.op != api.Add {
			h.Old = append(h.Old, a[l.i])
		}
		if l.op != api.Drop {
			h.New = append(h.New, b[l.j])
		}
	}
	return out
}

// turned holds that hunks make b of a, turned back a of b, and turned twice themselves.
func turned(t *testing.T, a, b []string, hunks []api.Hunk) {
	t.Helper()
	if got, e := hunk.Apply(a, hunks); e != api.OK || !slices.Equal(got, b) {
		t.Fatalf("%s applied to %.60q: %.60q, %d, want %.60q", tellAll(hunks), a, got, e, b)
	}
	back := hunk.Back(hunks)
	if got, e := hunk.Apply(b, back); e != api.OK || !slices.Equal(got, a) {
		t.Fatalf("%s applied to %.60q: %.60q, %d, want %.60q", tellAll(back), b, got, e, a)
	}
	if twice := hunk.Back(back); !same(twice, hunks) {
		t.Fatalf("%s, turned twice: %s", tellAll(hunks), tellAll(twice))
	}
}

// spoiled holds that a list in which any one line of an Old has changed is refused.
func spoiled(t *testing.T, a []string, hunks []api.Hunk) {
	t.Helper()
	for _, h := range hunks {
		for i := range h.Old {
			other := slices.Clone(a)
			other[h.At+i] += "!"
			if got, e := hunk.Apply(other, hunks); e != api.ErrNone || len(got) != 0 {
				t.Fatalf("%s applied to %.60q: %.60q, %d", tellAll(hunks), other, got, e)
			}
		}
	}
}

// held holds all that is said of two lists.
func held(t *testing.T, a, b []string, around int) {
	t.Helper()
	got := between(t, a, b, around)
	if wanted := model(t, a, b, around); !same(got, wanted) {
		t.Fatalf("%.60q to %.60q, %d around: %s, want %s", a, b, around, tellAll(got), tellAll(wanted))
	}
	turned(t, a, b, got)
}

// 13.1: the chapter's examples.
func TestExamples(t *testing.T) {
	a, b := words("a b c d e f g h"), words("a x c d e f g h i")
	for around, wanted := range map[int]string{
		0: "1 b > x; 8  > i",
		1: "0 a b c > a x c; 7 h > h i",
		2: "0 a b c d > a x c d; 6 g h > g h i",
		3: "0 a b c d e f g h > a x c d e f g h i",
	} {
		if got := tellAll(between(t, a, b, around)); got != wanted {
			t.Errorf("%d around: %s, want %s", around, got, wanted)
		}
	}
}

// 13.1: pieces at the ends, of drops alone, of adds alone, of both, and of all.
func TestPieces(t *testing.T) {
	for _, c := range []struct {
		a, b   string
		around int
		wanted string
	}{
		{"", "", 0, ""},
		{"", "", 3, ""},
		{"a b", "a b", 0, ""},
		{"a b", "a b", 9, ""},
		{"", "a b", 0, "0  > a b"},
		{"", "a b", 2, "0  > a b"},
		{"a b", "", 0, "0 a b > "},
		{"a b", "", 2, "0 a b > "},
		{"a b", "c d e", 0, "0 a b > c d e"},
		{"a b", "c d e", 5, "0 a b > c d e"},
		{"a b c", "b x c", 0, "0 a > ; 2  > x"},
		{"a b c", "b x c", 1, "0 a b c > b x c"},
		{"a", "a b", 0, "1  > b"},
		{"a", "b a", 0, "0  > b"},
		{"a b c d", "b c d", 1, "0 a b > b"},
		{"a b c d", "a b c", 1, "2 c d > c"},
		{"a b c d", "a d", 0, "1 b c > "},
		{"a b c d", "a d", 1, "0 a b c d > a d"},
		{"a b c d", "a b x y c d", 0, "2  > x y"},
		{"a b c d", "a b x y c d", 1, "1 b c > b x y c"},
		{"a b c d", "a b x y c d", 2, "0 a b c d > a b x y c d"},
		{"p q a r s", "p q b r s", 1, "1 q a r > q b r"},
	} {
		if got := tellAll(between(t, words(c.a), words(c.b), c.around)); got != c.wanted {
			t.Errorf("%s to %s, %d around: %s, want %s", c.a, c.b, c.around, got, c.wanted)
		}
	}
}

// 13.1: pieces with twice around kept lines between them are one, with one line more they aren't.
func TestNear(t *testing.T) {
	const most = 12
	kept := words("1 2 3 4 5 6 7 8 9 10 11 12 13 14 15 16 17 18 19 20 21 22 23 24 25")
	for around := range most + 1 {
		for gap := 1; gap <= 2*around+1; gap++ {
			row := kept[:gap]
			a := slices.Concat([]string{"a"}, row, []string{"b"})
			b := slices.Concat([]string{"x", "y"}, row, []string{"z"})
			wanted := []api.Hunk{{At: 0, Old: a, New: b}}
			if gap > 2*around {
				wanted = []api.Hunk{
					{At: 0, Old: a[:1+around], New: b[:2+around]},
					{At: 1 + gap - around, Old: a[1+gap-around:], New: b[2+gap-around:]},
				}
			}
			if got := between(t, a, b, around); !same(got, wanted) {
				t.Errorf("%d kept between, %d around: %s, want %s", gap, around, tellAll(got), tellAll(wanted))
			}
		}
	}
}

// 13.1: each piece that is near the one ahead is taken to it, however many there are.
func TestChained(t *testing.T) {
	a, b := words("a 1 2 b 3 4 c 5 6 7 d 8 e"), words("1 2 3 4 x 5 6 7 8")
	for around, wanted := range map[int]string{
		0: "0 a > ; 3 b > ; 6 c > x; 10 d > ; 12 e > ",
		1: "0 a 1 2 b 3 4 c 5 > 1 2 3 4 x 5; 9 7 d 8 e > 7 8",
		2: "0 a 1 2 b 3 4 c 5 6 7 d 8 e > 1 2 3 4 x 5 6 7 8",
	} {
		if got := tellAll(between(t, a, b, around)); got != wanted {
			t.Errorf("%d around: %s, want %s", around, got, wanted)
		}
	}
}

// 13.1: however many lines around are asked for, all lines are one piece, or none.
func TestManyAround(t *testing.T) {
	for _, around := range []int{8, api.MaxLines, api.MaxLines + 1, math.MaxInt32, math.MaxInt/2 - 1, math.MaxInt / 2, math.MaxInt/2 + 1, math.MaxInt/2 + 2, math.MaxInt - 1, math.MaxInt} {
		a, b := words("a b c d e f g h"), words("a x c d e f g h i")
		if got := between(t, a, b, around); !same(got, []api.Hunk{{At: 0, Old: a, New: b}}) {
			t.Errorf("%d around: %s", around, tellAll(got))
		}
		if got := between(t, a, a, around); len(got) != 0 {
			t.Errorf("%d around, of the same: %s", around, tellAll(got))
		}
	}
}

// numbered answers n lines, of which each is unlike the others.
func numbered(prefix string, n int) []string {
	out := make([]string, n)
	for i := range out {
		out[i] = prefix + strconv.Itoa(i)
	}
	return out
}

// 13.1: as many lines as may be in both lists, with changes at both ends.
func TestFull(t *testing.T) {
	const n = api.MaxLines
	a, other := numbered("a", n), numbered("b", n)
	held(t, a, a, 3)
	held(t, a, other, 0)
	held(t, a, nil, 1)
	held(t, nil, a, 1)
	b := slices.Clone(a)
	b[0], b[n-1] = "x", "y"
	for around, many := range map[int]int{0: 2, 3: 2, n/2 - 2: 2, n/2 - 1: 1, n / 2: 1, n: 1, math.MaxInt: 1} {
		held(t, a, b, around)
		if got := between(t, a, b, around); len(got) != many {
			t.Errorf("%d around: %d hunks, want %d", around, len(got), many)
		}
	}
}

// 13.1: fewer than no lines around and too long lists are refused, in this order, beside nothing.
func TestBetweenRefused(t *testing.T) {
	long := make([]string, api.MaxLines+1)
	full := long[:api.MaxLines]
	for _, around := range []int{-1, -2, -api.MaxLines, math.MinInt + 1, math.MinInt} {
		for _, c := range [][2][]string{{nil, nil}, {{"a"}, {"b"}}, {{"a"}, {"a"}}, {full, nil}, {long, nil}, {nil, long}, {long, long}} {
			if got, e := hunk.Between(c[0], c[1], around); e != api.ErrInput || len(got) != 0 {
				t.Errorf("%d lines to %d, %d around: %s, %d", len(c[0]), len(c[1]), around, tellAll(got), e)
			}
		}
	}
	for _, around := range []int{0, 1, math.MaxInt} {
		for _, c := range [][2][]string{{long, nil}, {nil, long}, {long, long}, {long, full}, {full, long}, {long, {"a"}}, {{"a"}, long}, {make([]string, 1<<20), nil}} {
			if got, e := hunk.Between(c[0], c[1], around); e != api.ErrLimit || len(got) != 0 {
				t.Errorf("%d lines to %d, %d around: %s, %d", len(c[0]), len(c[1]), around, tellAll(got), e)
			}
		}
	}
}

// listsOf answers all lists of up to n lines out of three.
func listsOf(n int) [][]string {
	lists := [][]string{nil}
	for k := 0; len(lists[k]) < n; k++ {
		for _, line := range []string{"a", "b", "c"} {
			lists = append(lists, append(slices.Clone(lists[k]), line))
		}
	}
	return lists
}

// 13.1 to 13.4: all pairs of lists of up to four lines out of three, and longer ones that begin and end alike.
func TestAll(t *testing.T) {
	for _, a := range listsOf(4) {
		for _, b := range listsOf(4) {
			for around := range 4 {
				held(t, a, b, around)
			}
			spoiled(t, a, between(t, a, b, 1))
			ahead, behind := words("p q r"), words("s t u")
			held(t, slices.Concat(ahead, a, behind), slices.Concat(ahead, b, behind), 2)
		}
	}
}

// someLines answers up to n random lines out of a few.
func someLines(source *rand.Rand, n, few int) []string {
	out := make([]string, source.Intn(n+1))
	for i := range out {
		out[i] = strconv.Itoa(source.Intn(few)) + "\n"
	}
	return out
}

// changed answers a list with some lines dropped, doubled and put in the place of others.
func changed(source *rand.Rand, list []string, often, few int) []string {
	var out []string
	for _, line := range list {
		switch source.Intn(often) {
		case 0:
		case 1:
			out = append(out, line, line)
		case 2:
			out = append(out, strconv.Itoa(source.Intn(few))+"\n")
		default:
			out = append(out, line)
		}
	}
	return out[:min(len(out), api.MaxLines)]
}

// 13.1 to 13.4: random lists, much alike and unlike ones, short and as long as may be.
func TestRandom(t *testing.T) {
	source := rand.New(rand.NewSource(13))
	for range 1500 {
		few := 1 + source.Intn(60)
		a := someLines(source, 1+source.Intn(60), few)
		b := someLines(source, 1+source.Intn(60), few)
		if source.Intn(4) > 0 {
			b = changed(source, a, 3+source.Intn(30), few)
		}
		around := source.Intn(8)
		held(t, a, b, around)
		if source.Intn(20) == 0 {
			spoiled(t, a, between(t, a, b, around))
		}
	}
	for around := range 6 {
		a := numbered("l", api.MaxLines)
		held(t, a, changed(source, a, 30, 9), around)
	}
}

// 13.1, 13.2: lines are alike if all of their bytes are, whatever these are; an end is one of them.
func TestBytes(t *testing.T) {
	lines := []string{"", "\x00", "\n", "a", "a\n", "A", "a ", "a\r\n", "\xff", "\xfe", "\xef\xbf\xbd", "ä", "a\u0308", "a\nb"}
	for i, x := range lines {
		for j, y := range lines {
			held(t, []string{x}, []string{y}, 1)
			wanted := api.ErrNone
			if i == j {
				wanted = api.OK
			}
			if got, e := hunk.Apply([]string{x}, []api.Hunk{{Old: []string{y}}}); e != wanted || len(got) != 0 {
				t.Errorf("%q away from %q: %q, %d", y, x, got, e)
			}
		}
	}
}

// change answers a hunk of two texts.
func change(at int, old, new string) api.Hunk {
	return api.Hunk{At: at, Old: words(old), New: words(new)}
}

// 13.2: hunks that stand in the list, in any number and of any lines.
func TestApply(t *testing.T) {
	for _, c := range []struct {
		a      string
		hunks  []api.Hunk
		wanted string
	}{
		{"", nil, ""},
		{"", []api.Hunk{}, ""},
		{"", []api.Hunk{{}}, ""},
		{"", []api.Hunk{change(0, "", "x y")}, "x y"},
		{"", []api.Hunk{change(0, "", "x"), change(0, "", "y")}, "x y"},
		{"a b", nil, "a b"},
		{"a b", []api.Hunk{{}, {At: 1}, {At: 2}}, "a b"},
		{"a b", []api.Hunk{change(0, "a b", "a b")}, "a b"},
		{"a b", []api.Hunk{change(0, "a b", "")}, ""},
		{"a b", []api.Hunk{change(0, "a", ""), change(1, "b", "")}, ""},
		{"a b", []api.Hunk{change(0, "a", "b"), change(1, "b", "a")}, "b a"},
		{"a b", []api.Hunk{change(0, "", "x"), change(0, "a", "y"), change(1, "", "z"), change(1, "b", "")}, "x y z"},
		{"a b", []api.Hunk{change(2, "", "x"), change(2, "", "y")}, "a b x y"},
		{"a b", []api.Hunk{change(1, "b", "x y z")}, "a x y z"},
		{"a b c d e", []api.Hunk{change(1, "b", ""), change(3, "d e", "x")}, "a c x"},
		{"a b c d e", []api.Hunk{change(0, "", "p q r"), change(4, "e", "x")}, "p q r a b c d x"},
		{"a a a", []api.Hunk{change(1, "a", "x")}, "a x a"},
		{"a a a", []api.Hunk{change(0, "a", ""), change(1, "a", ""), change(2, "a", "")}, ""},
	} {
		a := words(c.a)
		got, e := hunk.Apply(a, c.hunks)
		if e != api.OK || !slices.Equal(got, words(c.wanted)) {
			t.Errorf("%s applied to %s: %q, %d, want %s", tellAll(c.hunks), c.a, got, e, c.wanted)
		}
		turned(t, a, got, c.hunks)
	}
}

// 13.2: what is refused, and that the first hunk that is refused tells the error.
func TestApplyRefused(t *testing.T) {
	good, place, none := change(1, "b", "x"), change(-1, "", ""), change(1, "x", "")
	for _, c := range []struct {
		a      string
		hunks  []api.Hunk
		wanted api.Errno
	}{
		{"", []api.Hunk{{At: -1}}, api.ErrForm},
		{"", []api.Hunk{{At: 1}}, api.ErrForm},
		{"", []api.Hunk{change(0, "a", "")}, api.ErrNone},
		{"a b c", []api.Hunk{place}, api.ErrForm},
		{"a b c", []api.Hunk{change(-1, "c", "")}, api.ErrForm},
		{"a b c", []api.Hunk{{At: math.MinInt}}, api.ErrForm},
		{"a b c", []api.Hunk{{At: math.MaxInt}}, api.ErrForm},
		{"a b c", []api.Hunk{change(math.MaxInt, "a", "")}, api.ErrForm},
		{"a b c", []api.Hunk{{At: 4}}, api.ErrForm},
		{"a b c", []api.Hunk{change(4, "x", "")}, api.ErrForm},
		{"a b c", []api.Hunk{change(3, "x", "")}, api.ErrNone},
		{"a b c", []api.Hunk{change(2, "c d", "")}, api.ErrNone},
		{"a b c", []api.Hunk{change(2, "c c", "")}, api.ErrNone},
		{"a b c", []api.Hunk{change(0, "a b c d", "")}, api.ErrNone},
		{"a b c", []api.Hunk{change(0, "b", "")}, api.ErrNone},
		{"a b c", []api.Hunk{change(1, "a", "")}, api.ErrNone},
		{"a b c", []api.Hunk{change(0, "a x", "")}, api.ErrNone},
		{"a b c", []api.Hunk{good, good}, api.ErrForm},
		{"a b c", []api.Hunk{good, {At: 1}}, api.ErrForm},
		{"a b c", []api.Hunk{good, change(0, "a", "")}, api.ErrForm},
		{"a b c", []api.Hunk{change(0, "a b", ""), change(1, "b c", "")}, api.ErrForm},
		{"a b c", []api.Hunk{change(2, "", "x"), change(1, "b", "")}, api.ErrForm},
		{"a b c", []api.Hunk{good, none}, api.ErrForm},
		{"a b c", []api.Hunk{good, {At: 4}}, api.ErrForm},
		{"a b c", []api.Hunk{good, change(2, "x", "")}, api.ErrNone},
		{"a b c", []api.Hunk{good, change(3, "c", "")}, api.ErrNone},
		{"a b c", []api.Hunk{none, place}, api.ErrNone},
		{"a b c", []api.Hunk{place, none}, api.ErrForm},
		{"a b c", []api.Hunk{none, good}, api.ErrNone},
		{"a b c", []api.Hunk{none, {At: 4}}, api.ErrNone},
		{"a b c", []api.Hunk{{At: 4}, none}, api.ErrForm},
	} {
		if got, e := hunk.Apply(words(c.a), c.hunks); e != c.wanted || len(got) != 0 {
			t.Errorf("%s applied to %s: %q, %d, want %d", tellAll(c.hunks), c.a, got, e, c.wanted)
		}
	}
}

// modelApply applies hunks by the chapter's words, line by line.
func modelApply(a []string, hunks []api.Hunk) ([]string, api.Errno) {
	var out []string
	next := 0
	for _, h := range hunks {
		if h.At < next || h.At > len(a) {
			return nil, api.ErrForm
		}
		for ; next < h.At; next++ {
			out = append(out, a[next])
		}
		for _, line := range h.Old {
			if next == len(a) || a[next] != line {
				return nil, api.ErrNone
			}
			next++
		}
		out = append(out, h.New...)
	}
	for ; next < len(a); next++ {
		out = append(out, a[next])
	}
	return out, api.OK
}

// 13.2: all rows of two hunks out of many, applied to all short lists.
func TestApplyAll(t *testing.T) {
	var all []api.Hunk
	for at := -1; at <= 4; at++ {
		for _, old := range []string{"", "a", "b", "a b", "b b"} {
			all = append(all, change(at, old, "x"))
		}
	}
	for _, a := range listsOf(3) {
		for _, one := range all {
			for _, two := range all {
				hunks := []api.Hunk{one, two}
				wanted, e := modelApply(a, hunks)
				if got, f := hunk.Apply(a, hunks); f != e || !slices.Equal(got, wanted) {
					t.Fatalf("%s applied to %q: %q, %d, want %q, %d", tellAll(hunks), a, got, f, wanted, e)
				}
			}
		}
	}
}

// 13.2: no limit of lines holds for Apply, and what is refused at the end isn't made ahead of that.
func TestApplyLong(t *testing.T) {
	const many = 1 << 17
	a := numbered("l", many)
	hunks := []api.Hunk{{At: 0, New: a}, {At: 1, Old: a[1 : many-1], New: []string{"x"}}, {At: many, New: a}}
	wanted := slices.Concat(a, []string{a[0], "x", a[many-1]}, a)
	if got, e := hunk.Apply(a, hunks); e != api.OK || !slices.Equal(got, wanted) {
		t.Errorf("%d lines, %d", len(got), e)
	}
	huge := make([]api.Hunk, many)
	for i := range huge {
		huge[i] = api.Hunk{At: i, New: a}
	}
	huge[many-1].At = many + 1
	if got, e := hunk.Apply(a, huge); e != api.ErrForm || len(got) != 0 {
		t.Errorf("%d lines, %d, want %d", len(got), e, api.ErrForm)
	}
}

// 13.3: each hunk is moved by what the ones ahead of it alone put in or take out.
func TestBack(t *testing.T) {
	for _, c := range []struct{ hunks, wanted []api.Hunk }{
		{nil, nil},
		{[]api.Hunk{}, nil},
		{[]api.Hunk{{}}, []api.Hunk{{}}},
		{[]api.Hunk{change(3, "a", "b c")}, []api.Hunk{change(3, "b c", "a")}},
		{[]api.Hunk{change(0, "a b c", "a x c"), change(7, "h", "h i")}, []api.Hunk{change(0, "a x c", "a b c"), change(7, "h i", "h")}},
		{
			[]api.Hunk{change(1, "a", "b c d"), change(4, "e f", ""), change(9, "", "g"), change(9, "h", "")},
			[]api.Hunk{change(1, "b c d", "a"), change(6, "", "e f"), change(9, "g", ""), change(10, "", "h")},
		},
		{
			[]api.Hunk{change(5, "a b c", ""), change(8, "", ""), change(9, "d", "")},
			[]api.Hunk{change(5, "", "a b c"), change(5, "", ""), change(6, "", "d")},
		},
	} {
		if got := hunk.Back(c.hunks); !same(got, c.wanted) {
			t.Errorf("%s, turned: %s, want %s", tellAll(c.hunks), tellAll(got), tellAll(c.wanted))
		}
		if got := hunk.Back(hunk.Back(c.hunks)); !same(got, c.hunks) {
			t.Errorf("%s, turned twice: %s", tellAll(c.hunks), tellAll(got))
		}
	}
}

// 13.3, 13.4: hunks that no list has, places past all numbers among them, are turned as well.
func TestBackAny(t *testing.T) {
	wild := []api.Hunk{
		change(7, "a b", "c"), change(-3, "", "d e f"), change(math.MaxInt, "a", "a"),
		change(math.MinInt, "x", ""), change(0, "x", "y z"), change(7, "a b", "c"),
	}
	wanted := []api.Hunk{
		change(7, "c", "a b"), change(-4, "d e f", ""), change(math.MinInt+1, "a", "a"),
		change(math.MinInt+2, "", "x"), change(1, "y z", "x"), change(9, "c", "a b"),
	}
	if got := hunk.Back(wild); !same(got, wanted) {
		t.Errorf("%s, turned: %s, want %s", tellAll(wild), tellAll(got), tellAll(wanted))
	}
	source := rand.New(rand.NewSource(133))
	for range 2000 {
		hunks := make([]api.Hunk, source.Intn(6))
		for i := range hunks {
			hunks[i] = api.Hunk{At: int(source.Uint64()), Old: someLines(source, 4, 3), New: someLines(source, 4, 3)}
		}
		if twice := hunk.Back(hunk.Back(hunks)); !same(twice, hunks) {
			t.Fatalf("%s, turned twice: %s", tellAll(hunks), tellAll(twice))
		}
	}
}

// 13.4: whichever line of an Old has changed, gone, or come, the list is refused; one between hunks isn't.
func TestChangedList(t *testing.T) {
	a, b := numbered("a", 40), numbered("a", 40)
	b[4], b[20], b[39] = "x", "y", "z"
	hunks := between(t, a, b, 2)
	if len(hunks) != 3 {
		t.Fatal(tellAll(hunks))
	}
	spoiled(t, a, hunks)
	spoiled(t, b, hunk.Back(hunks))
	for _, other := range [][]string{a[:2], a[1:], a[:39], b, slices.Insert(slices.Clone(a), 3, "new"), slices.Delete(slices.Clone(a), 19, 20)} {
		if got, e := hunk.Apply(other, hunks); e != api.ErrNone || len(got) != 0 {
			t.Errorf("applied to %.60q: %.60q, %d", other, got, e)
		}
	}
	other, wanted := slices.Clone(a), slices.Clone(b)
	other[10], wanted[10] = "free", "free"
	if got, e := hunk.Apply(other, hunks); e != api.OK || !slices.Equal(got, wanted) {
		t.Errorf("with a change between hunks: %.60q, %d", got, e)
	}
}

// Rule 4: what is handed in isn't changed, spare room included, nor if lists are pieces of one another.
func TestGiven(t *testing.T) {
	whole := words("a b c b a spare room")
	before := slices.Clone(whole)
	for n := range 6 {
		for _, around := range []int{0, 1, 5} {
			there := between(t, whole[:n], whole[1:5], around)
			back := between(t, whole[1:5], whole[:n], around)
			turned(t, whole[:n], whole[1:5], there)
			turned(t, whole[1:5], whole[:n], back)
		}
		hunks := []api.Hunk{{At: 0, Old: whole[:1], New: whole[2:4]}, {At: n, Old: whole[:0], New: whole[:5]}, {At: 9}}[:2]
		known := copied(hunks[:3])
		hunk.Apply(whole[:n], hunks)
		hunk.Back(hunks)
		if !slices.Equal(whole, before) || !same(hunks[:3], known) {
			t.Fatalf("%q became %q, %s became %s", before, whole, tellAll(known), tellAll(hunks[:3]))
		}
	}
}

// scribble writes over a list and its spare room.
func scribble(list []string) {
	for i := range list[:cap(list)] {
		list[:cap(list)][i] = "scribbled"
	}
}

// apart holds that a write into any one list of hunks is seen in none of the others, nor in what is told beside.
func apart(t *testing.T, hunks []api.Hunk, beside func() string) {
	t.Helper()
	told := beside()
	for i := range hunks {
		for k := range 2 {
			wanted := copied(hunks)
			list, put := hunks[i].Old, &wanted[i].Old
			if k == 1 {
				list, put = hunks[i].New, &wanted[i].New
			}
			scribble(list)
			*put = slices.Clone(list)
			if !same(hunks, wanted) || beside() != told {
				t.Fatalf("a write into list %d of hunk %d: %s, want %s; %s, want %s", k, i, tellAll(hunks), tellAll(wanted), beside(), told)
			}
		}
	}
	for i := range hunks[:cap(hunks)] {
		hunks[:cap(hunks)][i] = api.Hunk{At: 99}
	}
	if beside() != told {
		t.Fatalf("a write into the hunks: %s, want %s", beside(), told)
	}
}

// Rule 4: answers of Between share no memory with the lists, with each other, and with earlier answers.
func TestBetweenNew(t *testing.T) {
	a, b := words("a b c d e f g h i"), words("x b c y e f f g i")
	for _, around := range []int{0, 1, 3} {
		first := between(t, a, b, around)
		beside := func() string {
			return strings.Join(a[:cap(a)], " ") + strings.Join(b[:cap(b)], " ") + tellAll(first)
		}
		apart(t, between(t, a, b, around), beside)
		wanted := copied(first)
		one, two := slices.Clone(a), slices.Clone(b)
		scribble(a)
		scribble(b)
		if !same(first, wanted) {
			t.Errorf("behind a write into the lists: %s, want %s", tellAll(first), tellAll(wanted))
		}
		a, b = one, two
	}
}

// Rule 4: answers of Back share no memory with the hunks, with each other, and with earlier answers.
func TestBackNew(t *testing.T) {
	one := words("a b c d")
	hunks := []api.Hunk{{At: 1, Old: one[:2], New: one[1:]}, {At: 5, Old: one, New: one}, {At: 9}, {At: 9, New: one[:0]}}
	first := hunk.Back(hunks)
	beside := func() string {
		return strings.Join(one, " ") + tellAll(hunks) + tellAll(first)
	}
	apart(t, hunk.Back(hunks), beside)
	wanted := copied(first)
	scribble(one)
	clear(hunks)
	if !same(first, wanted) {
		t.Errorf("behind a write into the hunks: %s, want %s", tellAll(first), tellAll(wanted))
	}
}

// Rule 4: answers of Apply share no memory with the list, the hunks, and earlier answers.
func TestApplyNew(t *testing.T) {
	for _, hunks := range [][]api.Hunk{
		nil,
		{{}},
		{{At: 4}},
		{{At: 0, Old: words("a b c d"), New: words("x y")}},
		{{At: 0, Old: words("a"), New: words("x y")}, {At: 4, New: words("z")}},
		{{At: 2, Old: words("c d"), New: nil}},
	} {
		a := append(make([]string, 0, 9), words("a b c d")...)
		whole := a[:9]
		known := copied(hunks)
		first, e := hunk.Apply(a, hunks)
		second, f := hunk.Apply(a, hunks)
		if e != api.OK || f != api.OK {
			t.Fatal(e, f)
		}
		wanted, given := slices.Clone(first), slices.Clone(whole)
		scribble(second)
		if !slices.Equal(first, wanted) || !slices.Equal(whole, given) || !same(hunks, known) {
			t.Errorf("behind a write into an answer: %q, %q, %s", first, whole, tellAll(hunks))
		}
		scribble(a)
		for _, h := range hunks {
			scribble(h.Old)
			scribble(h.New)
		}
		if !slices.Equal(first, wanted) {
			t.Errorf("behind a write into what was given: %q, want %q", first, wanted)
		}
	}
}

// Rule 5: nil and empty lists are the same.
func TestNothing(t *testing.T) {
	for _, none := range [][]string{nil, {}} {
		for _, other := range [][]string{nil, {}} {
			if got := between(t, none, other, 1); len(got) != 0 {
				t.Errorf("nothing to nothing: %s", tellAll(got))
			}
			if got, e := hunk.Apply(none, []api.Hunk{{Old: other, New: other}}); e != api.OK || len(got) != 0 {
				t.Errorf("nothing in nothing: %q, %d", got, e)
			}
		}
		if got := between(t, none, []string{"a"}, 1); tellAll(got) != "0  > a" {
			t.Errorf("nothing to a: %s", tellAll(got))
		}
		if got := between(t, []string{"a"}, none, 1); tellAll(got) != "0 a > " {
			t.Errorf("a to nothing: %s", tellAll(got))
		}
	}
}
