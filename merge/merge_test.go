package merge_test

import (
	"math/rand"
	"slices"
	"strconv"
	"strings"
	"testing"

	"tether/api"
	"tether/diff"
	"tether/lines"
	"tether/merge"
)

// text answers words as a text with a line each.
func text(s string) string {
	var out strings.Builder
	for _, word := range strings.Fields(s) {
		out.WriteString(word + "\n")
	}
	return out.String()
}

// tell answers pieces as a text: stable ones as their lines, others as base > left | right.
func tell(chunks []api.Chunk) string {
	short := func(l []string) string {
		return strings.TrimSpace(strings.ReplaceAll(strings.Join(l, ""), "\n", " "))
	}
	told := make([]string, len(chunks))
	for i, c := range chunks {
		told[i] = short(c.Base) + " > " + short(c.Left) + " | " + short(c.Right)
		if c.Stable {
			told[i] = short(c.Base)
		}
	}
	return strings.Join(told, "; ")
}

// same tells whether pieces are alike, element by element.
func same(x, y []api.Chunk) bool {
	return slices.EqualFunc(x, y, func(p, q api.Chunk) bool {
		return p.Stable == q.Stable && slices.Equal(p.Base, q.Base) && slices.Equal(p.Left, q.Left) && slices.Equal(p.Right, q.Right)
	})
}

// copied answers pieces in memory of their own.
func copied(chunks []api.Chunk) []api.Chunk {
	out := slices.Clone(chunks)
	for i := range out {
		for _, l := range listsOf(&out[i]) {
			*l = slices.Clone(*l)
		}
	}
	return out
}

// listsOf answers where the three lists of a piece stand.
func listsOf(c *api.Chunk) [3]*[]string {
	return [3]*[]string{&c.Base, &c.Left, &c.Right}
}

// pieces answers the pieces of three texts.
func pieces(t *testing.T, base, left, right string) []api.Chunk {
	t.Helper()
	chunks, e := merge.Chunks(base, left, right)
	if e != api.OK {
		t.Fatalf("%.60q, %.60q, %.60q: error %d", base, left, right, e)
	}
	return chunks
}

// merged answers the merge of three texts, and how many conflicts it has.
func merged(t *testing.T, base, left, right string) (string, int) {
	t.Helper()
	made, n, e := merge.Merge(base, left, right)
	if e != api.OK {
		t.Fatalf("%.60q, %.60q, %.60q: error %d", base, left, right, e)
	}
	return made, n
}

// partners answers for each line of the base the place of the line by which it is kept, or -1.
func partners(t *testing.T, base, other []string) []int {
	t.Helper()
	out := make([]int, len(base))
	for i := range out {
		out[i] = -1
	}
	kept, e := diff.Kept(base, other)
	if e != api.OK {
		t.Fatal(e)
	}
	for _, pair := range kept {
		out[pair[0]] = pair[1]
	}
	return out
}

// model answers the pieces of three texts by the chapter's words: from the end on, line by line.
func model(t *testing.T, base, left, right string) []api.Chunk {
	t.Helper()
	b, l, r := lines.Split(base), lines.Split(left), lines.Split(right)
	toLeft, toRight := partners(t, b, l), partners(t, b, r)
	var out []api.Chunk
	first := func(c api.Chunk) {
		if len(c.Base)+len(c.Left)+len(c.Right) > 0 {
			out = slices.Insert(out, 0, c)
		}
	}
	ends := [3]int{len(b), len(l), len(r)}
	for i := len(b) - 1; i >= 0; i-- {
		j, k := toLeft[i], toRight[i]
		if j < 0 || k < 0 {
			continue
		}
		first(api.Chunk{Base: b[i+1 : ends[0]], Left: l[j+1 : ends[1]], Right: r[k+1 : ends[2]]})
		ends = [3]int{i, j, k}
		one := []string{b[i]}
		if len(out) == 0 || !out[0].Stable {
			first(api.Chunk{Stable: true})
			out = slices.Insert(out, 0, api.Chunk{Stable: true})
		}
		for _, list := range listsOf(&out[0]) {
			*list = slices.Concat(one, *list)
		}
	}
	first(api.Chunk{Base: b[:ends[0]], Left: l[:ends[1]], Right: r[:ends[2]]})
	return out
}

// ended answers a text with an end at its last line.
func ended(s string) string {
	if s != "" && s[len(s)-1] != '\n' {
		return s + "\n"
	}
	return s
}

// modelMerge answers the merge of pieces by the chapter's words, with texts in the place of lines.
func modelMerge(chunks []api.Chunk) (string, int) {
	made, n := "", 0
	for _, c := range chunks {
		base, left, right := strings.Join(c.Base, ""), strings.Join(c.Left, ""), strings.Join(c.Right, "")
		switch {
		case c.Stable:
			made += base
		case left == right || right == base:
			made += left
		case left == base:
			made += right
		default:
			made += "<<<<<<<\n" + ended(left) + "=======\n" + ended(right) + ">>>>>>>\n"
			n++
		}
	}
	return made, n
}

// whole holds that the pieces, joined, are the three texts, that none is empty, and that no two of a kind stand side by side.
func whole(t *testing.T, chunks []api.Chunk, texts [3]string) {
	t.Helper()
	var joined [3]string
	for i, c := range chunks {
		for k, list := range listsOf(&c) {
			joined[k] += strings.Join(*list, "")
		}
		if len(c.Base)+len(c.Left)+len(c.Right) == 0 {
			t.Fatalf("piece %d of %.60q is empty", i, texts)
		}
		if c.Stable && !(slices.Equal(c.Base, c.Left) && slices.Equal(c.Base, c.Right)) {
			t.Fatalf("piece %d of %.60q is stable and unlike: %s", i, texts, tell(chunks))
		}
		if i > 0 && c.Stable == chunks[i-1].Stable {
			t.Fatalf("piece %d of %.60q is of the kind of the one ahead: %s", i, texts, tell(chunks))
		}
	}
	if joined != texts {
		t.Fatalf("the pieces of %.60q joined: %.60q", texts, joined)
	}
}

// turned holds that with left and right changed about the pieces are so too, and that this doesn't matter where nothing clashes.
func turned(t *testing.T, base, left, right string) {
	t.Helper()
	there, back := pieces(t, base, left, right), pieces(t, base, right, left)
	for i := range back {
		back[i].Left, back[i].Right = back[i].Right, back[i].Left
	}
	if !same(there, back) {
		t.Fatalf("%.60q, %.60q, %.60q: %s, and turned %s", base, left, right, tell(there), tell(back))
	}
	one, n := merged(t, base, left, right)
	two, m := merged(t, base, right, left)
	if n != m || n == 0 && one != two {
		t.Fatalf("%.60q, %.60q, %.60q: %.60q, %d, and turned %.60q, %d", base, left, right, one, n, two, m)
	}
}

// held holds all that is said of three texts.
func held(t *testing.T, base, left, right string) {
	t.Helper()
	got, wanted := pieces(t, base, left, right), model(t, base, left, right)
	if !same(got, wanted) {
		t.Fatalf("%.60q, %.60q, %.60q: %s, want %s", base, left, right, tell(got), tell(wanted))
	}
	whole(t, got, [3]string{base, left, right})
	made, n := merged(t, base, left, right)
	if wanted, m := modelMerge(wanted); made != wanted || n != m {
		t.Fatalf("%.60q, %.60q, %.60q: %.60q, %d, want %.60q, %d", base, left, right, made, n, wanted, m)
	}
	if (base == left || base == right || left == right) && n != 0 {
		t.Fatalf("%.60q, %.60q, %.60q: %d conflicts", base, left, right, n)
	}
}

// oneSided holds that a change of one side alone, or of both alike, is the merge.
func oneSided(t *testing.T, base, other string) {
	t.Helper()
	for _, c := range [][2]string{{other, base}, {base, other}, {other, other}} {
		if made, n := merged(t, base, c[0], c[1]); made != other || n != 0 {
			t.Fatalf("%.60q, %.60q, %.60q: %.60q, %d", base, c[0], c[1], made, n)
		}
	}
}

// 14.2: the chapter's examples, and the marks.
func TestExamples(t *testing.T) {
	for _, c := range []struct {
		base, left, right, wanted string
		conflicts                 int
	}{
		{"a b c", "x b c", "a b y", "x b y", 0},
		{"a b c", "x b c", "y b c", "<<<<<<< x ======= y >>>>>>> b c", 1},
		{"a b c", "a c", "a b c d", "a c d", 0},
		{"1 2 3", "x 2 3", "1 2 y", "x 2 y", 0},
	} {
		if made, n := merged(t, text(c.base), text(c.left), text(c.right)); made != text(c.wanted) || n != c.conflicts {
			t.Errorf("%s, %s, %s: %q, %d, want %s, %d", c.base, c.left, c.right, made, n, c.wanted, c.conflicts)
		}
	}
	if merge.Ahead != "<<<<<<<\n" || merge.Middle != "=======\n" || merge.Behind != ">>>>>>>\n" {
		t.Errorf("marks %q, %q, %q", merge.Ahead, merge.Middle, merge.Behind)
	}
}

// 14.1: pieces at the ends and in the middle, empty in one or two of the three, and rows of stable lines cut by adds alone.
func TestChunks(t *testing.T) {
	for _, c := range []struct{ base, left, right, wanted string }{
		{"", "", "", ""},
		{"a", "a", "a", "a"},
		{"a b c", "a b c", "a b c", "a b c"},
		{"", "a", "", " > a | "},
		{"", "", "a", " >  | a"},
		{"a", "", "", "a >  | "},
		{"", "a", "a", " > a | a"},
		{"a", "b", "c", "a > b | c"},
		{"a b", "c", "d e f", "a b > c | d e f"},
		{"a b c", "x b c", "a b y", "a > x | a; b; c > c | y"},
		{"a b c", "x b c", "y b c", "a > x | y; b c"},
		{"a b c", "a c", "a b c d", "a; b >  | b; c;  >  | d"},
		{"a b", "a x b", "a b", "a;  > x | ; b"},
		{"a b", "a b", "a x b", "a;  >  | x; b"},
		{"a b", "a x b", "a y b", "a;  > x | y; b"},
		{"a b", "x a b", "a b y", " > x | ; a b;  >  | y"},
		{"a b c", "a c", "a c", "a; b >  | ; c"},
		{"a b c d", "a c d", "a b d", "a; b c > c | b; d"},
		{"a b c d", "b c d", "a b c", "a >  | a; b c; d > d | "},
		{"a b", "b a", "a b", "a >  | a; b;  > a | "},
		{"a b c", "b a c", "a b c", "a >  | a; b;  > a | ; c"},
		{"x x", "x", "x x x", "x; x >  | x x"},
	} {
		if got := tell(pieces(t, text(c.base), text(c.left), text(c.right))); got != c.wanted {
			t.Errorf("%s, %s, %s: %s, want %s", c.base, c.left, c.right, got, c.wanted)
		}
	}
}

// 14.1: each of three lists is told, of a stable piece the same lines thrice.
func TestFields(t *testing.T) {
	got := pieces(t, "a\nb\nc\nd", "x\na\nb\nd", "a\nb\nc\ny\nz")
	wanted := []api.Chunk{
		{Left: []string{"x\n"}},
		{Stable: true, Base: []string{"a\n", "b\n"}, Left: []string{"a\n", "b\n"}, Right: []string{"a\n", "b\n"}},
		{Base: []string{"c\n", "d"}, Left: []string{"d"}, Right: []string{"c\n", "y\n", "z"}},
	}
	if !same(got, wanted) {
		t.Errorf("%s, want %s", tell(got), tell(wanted))
	}
}

// 14.2: which side's lines are taken, and what is a conflict.
func TestMerge(t *testing.T) {
	for _, c := range []struct {
		base, left, right, wanted string
		conflicts                 int
	}{
		{"", "", "", "", 0},
		{"a", "", "", "", 0},
		{"a", "", "a", "", 0},
		{"a", "a", "", "", 0},
		{"a", "b", "", "<<<<<<< b ======= >>>>>>>", 1},
		{"a", "", "b", "<<<<<<< ======= b >>>>>>>", 1},
		{"", "a", "", "a", 0},
		{"", "", "a", "a", 0},
		{"", "a", "a", "a", 0},
		{"", "a", "b", "<<<<<<< a ======= b >>>>>>>", 1},
		{"", "a b c", "a b d", "<<<<<<< a b c ======= a b d >>>>>>>", 1},
		{"a", "x", "y", "<<<<<<< x ======= y >>>>>>>", 1},
		{"a", "a x", "a y", "a <<<<<<< x ======= y >>>>>>>", 1},
		{"a", "x a", "y a", "<<<<<<< x ======= y >>>>>>> a", 1},
		{"a b", "a x b", "a y b", "a <<<<<<< x ======= y >>>>>>> b", 1},
		{"a b", "a x b", "a x b", "a x b", 0},
		{"a b", "x b", "a y", "<<<<<<< x b ======= a y >>>>>>>", 1},
		{"a b c", "x b c", "a b y", "x b y", 0},
		{"a b c", "x b p", "y b q", "<<<<<<< x ======= y >>>>>>> b <<<<<<< p ======= q >>>>>>>", 2},
		{"a b c d e", "x b c d p", "x b y d q", "x b y d <<<<<<< p ======= q >>>>>>>", 1},
		{"a b c d", "a c d", "a b d", "a <<<<<<< c ======= b >>>>>>> d", 1},
		{"a b", "a", "a b c", "a <<<<<<< ======= b c >>>>>>>", 1},
		{"a b c d", "b c d", "a b c", "b c", 0},
		{"a a", "a", "a a a", "a <<<<<<< ======= a a >>>>>>>", 1},
		{"<<<<<<< a =======", "<<<<<<< x =======", "<<<<<<< y =======", "<<<<<<< <<<<<<< x ======= y >>>>>>> =======", 1},
	} {
		base, left, right := text(c.base), text(c.left), text(c.right)
		if made, n := merged(t, base, left, right); made != text(c.wanted) || n != c.conflicts {
			t.Errorf("%s, %s, %s: %q, %d, want %s, %d", c.base, c.left, c.right, made, n, c.wanted, c.conflicts)
		}
	}
}

// 14.2: sides that end without a line's end are closed in a conflict, and left as they are otherwise.
func TestClosed(t *testing.T) {
	for _, c := range []struct {
		base, left, right, wanted string
		conflicts                 int
	}{
		{"a", "b", "c", "<<<<<<<\nb\n=======\nc\n>>>>>>>\n", 1},
		{"a", "b\n", "c", "<<<<<<<\nb\n=======\nc\n>>>>>>>\n", 1},
		{"a", "b", "c\n", "<<<<<<<\nb\n=======\nc\n>>>>>>>\n", 1},
		{"a\n", "a", "b", "<<<<<<<\na\n=======\nb\n>>>>>>>\n", 1},
		{"a", "x\nb", "", "<<<<<<<\nx\nb\n=======\n>>>>>>>\n", 1},
		{"a", "", "x\nb", "<<<<<<<\n=======\nx\nb\n>>>>>>>\n", 1},
		{"", "a", "a\n", "<<<<<<<\na\n=======\na\n>>>>>>>\n", 1},
		{"x\na", "x\nb", "x\nc", "x\n<<<<<<<\nb\n=======\nc\n>>>>>>>\n", 1},
		{"a\n\n", "b\n\n", "\n", "<<<<<<<\nb\n=======\n>>>>>>>\n\n", 1},
		{"a", "a\n", "a", "a\n", 0},
		{"a", "a", "a\n", "a\n", 0},
		{"a\n", "a\n", "a", "a", 0},
		{"a\n", "a", "a", "a", 0},
		{"a\n", "a", "a\nb", "<<<<<<<\na\n=======\na\nb\n>>>>>>>\n", 1},
		{"a", "a", "a", "a", 0},
		{"a\nb\nc", "x\nb\nc", "a\nb\ny", "x\nb\ny", 0},
		{"a\r\nb", "x\r\nb", "a\nb", "<<<<<<<\nx\r\n=======\na\n>>>>>>>\nb", 1},
		{"a\rb", "a\rc", "a\rb", "a\rc", 0},
	} {
		if made, n := merged(t, c.base, c.left, c.right); made != c.wanted || n != c.conflicts {
			t.Errorf("%q, %q, %q: %q, %d, want %q, %d", c.base, c.left, c.right, made, n, c.wanted, c.conflicts)
		}
		held(t, c.base, c.left, c.right)
	}
}

// 14.1, 14.2: what is no text is refused, the base ahead of left, and left ahead of right, beside nothing.
func TestRefused(t *testing.T) {
	const n = api.MaxLines
	binary, long := "a\x00", strings.Repeat("\n", n)+"a"
	bad := map[string]api.Errno{binary: api.ErrBinary, "\x00": api.ErrBinary, long: api.ErrLimit, strings.Repeat("a\n", n+1): api.ErrLimit, long + "\x00": api.ErrBinary}
	good := []string{"", "a", "a\n", strings.Repeat("b\n", n)}
	all := slices.Clone(good)
	for s := range bad {
		all = append(all, s)
	}
	for _, base := range all {
		for _, left := range all {
			for _, right := range all {
				wanted := api.OK
				for _, s := range []string{right, left, base} {
					if e := bad[s]; e != api.OK {
						wanted = e
					}
				}
				chunks, e := merge.Chunks(base, left, right)
				made, conflicts, f := merge.Merge(base, left, right)
				if e != wanted || f != wanted {
					t.Fatalf("%.20q, %.20q, %.20q: %d and %d, want %d", base, left, right, e, f, wanted)
				}
				if e != api.OK && (len(chunks) != 0 || made != "" || conflicts != 0) {
					t.Fatalf("%.20q, %.20q, %.20q: %s, %.20q, %d beside %d", base, left, right, tell(chunks), made, conflicts, e)
				}
			}
		}
	}
}

// numbered answers n lines, of which each is unlike the others.
func numbered(prefix string, n int) []string {
	out := make([]string, n)
	for i := range out {
		out[i] = prefix + strconv.Itoa(i) + "\n"
	}
	return out
}

// 14.1, 14.2: as many lines as may be, and a merge of more of them; no limit of bytes holds.
func TestFull(t *testing.T) {
	const n = api.MaxLines
	a, b, c := lines.Join(numbered("a", n)), lines.Join(numbered("b", n)), lines.Join(numbered("c", n))
	for _, x := range []string{a, b, c, ""} {
		for _, y := range []string{a, b, c, ""} {
			held(t, a, x, y)
			held(t, "", x, y)
		}
	}
	base, left, right := numbered("l", n), numbered("l", n), numbered("l", n)
	for i := range n / 4 {
		left[4*i], right[4*i+2] = "left\n", "right\n"
	}
	held(t, lines.Join(base), lines.Join(left), lines.Join(right))
	if _, conflicts := merged(t, lines.Join(base), lines.Join(left), lines.Join(right)); conflicts != 0 {
		t.Errorf("every other line: %d conflicts", conflicts)
	}
	for i := range n / 4 {
		right[4*i] = "right\n"
	}
	held(t, lines.Join(base), lines.Join(left), lines.Join(right))
	if _, conflicts := merged(t, lines.Join(base), lines.Join(left), lines.Join(right)); conflicts != n/4 {
		t.Errorf("every fourth line on both sides: %d conflicts, want %d", conflicts, n/4)
	}
	wide := strings.Repeat("w", 1<<20)
	if made, conflicts := merged(t, "a\nb\n"+wide, wide+"\nb\n"+wide, "a\nb\n"+wide+wide); made != wide+"\nb\n"+wide+wide || conflicts != 0 {
		t.Errorf("wide lines: %d bytes, %d conflicts", len(made), conflicts)
	}
}

// textsOf answers all texts of up to n lines out of some, with the last line's end and without.
func textsOf(n int, words ...string) []string {
	rows := []string{""}
	for k := 0; len(strings.Fields(rows[k])) < n; k++ {
		for _, word := range words {
			rows = append(rows, rows[k]+" "+word)
		}
	}
	var texts []string
	for _, row := range rows {
		whole := text(row)
		texts = append(texts, whole)
		if whole != "" {
			texts = append(texts, strings.TrimSuffix(whole, "\n"))
		}
	}
	return texts
}

// 14.1 to 14.3: all threes of short texts.
func TestAll(t *testing.T) {
	three, two := textsOf(2, "a", "b", "c"), textsOf(3, "a", "b")
	for _, texts := range [][]string{three, two} {
		for _, base := range texts {
			for _, left := range texts {
				oneSided(t, base, left)
				for _, right := range texts {
					held(t, base, left, right)
				}
			}
		}
	}
	for _, base := range three {
		for _, left := range three {
			for _, right := range three {
				turned(t, base, left, right)
			}
		}
	}
}

// someLines answers up to n random lines out of a few.
func someLines(source *rand.Rand, n, few int) []string {
	out := make([]string, source.Intn(n+1))
	for i := range out {
		out[i] = strconv.Itoa(source.Intn(few)) + "\n"
	}
	return out
}

// changed answers a list with some lines dropped, doubled and put in the place of others.
func changed(source *rand.Rand, list []string, often, few int) []string {
	var out []string
	for _, line := range list {
		switch source.Intn(often) {
		case 0:
		case 1:
			out = append(out, line, line)
		case 2:
			out = append(out, strconv.Itoa(source.Intn(few))+"\n")
		default:
			out = append(out, line)
		}
	}
	return out[:min(len(out), api.MaxLines)]
}

// cut answers the text of lines, at times without the last one's end.
func cut(source *rand.Rand, list []string) string {
	s := lines.Join(list)
	if source.Intn(3) == 0 {
		s = strings.TrimSuffix(s, "\n")
	}
	return s
}

// 14.1 to 14.3: random texts, much alike and unlike ones, short and as long as may be.
func TestRandom(t *testing.T) {
	source := rand.New(rand.NewSource(14))
	for range 1500 {
		n, few, often := 1+source.Intn(40), 1+source.Intn(60), 3+source.Intn(30)
		base := someLines(source, n, few)
		left, right := changed(source, base, often, few), changed(source, base, often, few)
		if source.Intn(8) == 0 {
			right = someLines(source, n, few)
		}
		b, l, r := cut(source, base), cut(source, left), cut(source, right)
		held(t, b, l, r)
		turned(t, b, l, r)
		oneSided(t, b, r)
	}
	for range 6 {
		base := numbered("l", api.MaxLines)
		held(t, lines.Join(base), cut(source, changed(source, base, 40, 9)), cut(source, changed(source, base, 40, 9)))
	}
}

// edit answers some lines in the place of one: none, or another one, in front of it, behind it, or around it.
func edit(source *rand.Rand, line string) []string {
	other := "new" + strconv.Itoa(source.Intn(3)) + "\n"
	return [][]string{{}, {other}, {other, line}, {line, other}, {other, line, other}}[source.Intn(5)]
}

// 14.3: changes of different lines with a line between that all keep are merged, whichever they are.
func TestDifferent(t *testing.T) {
	source := rand.New(rand.NewSource(143))
	for range 3000 {
		base := numbered("l", 1+source.Intn(30))
		var left, right, wanted []string
		last := 0
		for _, line := range base {
			side := source.Intn(3)
			// Beside a line that the other side has changed, one stays.
			if side+last == 3 {
				side = 0
			}
			last = side
			here := [3][]string{{line}, {line}, {line}}
			if side > 0 {
				made := edit(source, line)
				here[0], here[side] = made, made
			}
			left, right, wanted = append(left, here[1]...), append(right, here[2]...), append(wanted, here[0]...)
		}
		made, n := merged(t, lines.Join(base), lines.Join(left), lines.Join(right))
		if made != lines.Join(wanted) || n != 0 {
			t.Fatalf("%q, %q, %q: %q, %d, want %q", base, left, right, made, n, wanted)
		}
	}
}

// 14.3: changes side by side are a conflict, so are adds of both at one place.
func TestBeside(t *testing.T) {
	base := text("a b c d")
	for _, c := range []struct {
		left, right string
		conflicts   int
	}{
		{"a x c d", "a b y d", 1},
		{"a c d", "a b d", 1},
		{"a b x c d", "a b y c d", 1},
		{"a b x c d", "a b y d", 1},
		{"a x c d", "a b y c d", 1},
		{"a x c d", "y a b c d", 0},
		{"a x c d", "a b c y", 0},
		{"x b c d", "a b y d", 0},
	} {
		if _, n := merged(t, base, text(c.left), text(c.right)); n != c.conflicts {
			t.Errorf("%s and %s: %d conflicts, want %d", c.left, c.right, n, c.conflicts)
		}
	}
}

// 14.1: lines are alike if all of their bytes are, whatever these are.
func TestBytes(t *testing.T) {
	all := []string{"", "\n", "a", "a\n", "A", "a ", "a\r\n", "\xff", "\xfe", "\xef\xbf\xbd", "ä", "a\u0308", "\x01"}
	for _, base := range all {
		for _, left := range all {
			for _, right := range all {
				held(t, base, left, right)
			}
		}
	}
}

// scribble writes over a list and its spare room.
func scribble(list []string) {
	for i := range list[:cap(list)] {
		list[:cap(list)][i] = "scribbled"
	}
}

// Rule 4: no two lists of an answer share any memory, nor do two answers.
func TestChunksNew(t *testing.T) {
	for _, c := range [][3]string{
		{"a b c d e", "a b c d e", "a b c d e"},
		{"a b c d e", "x b c e", "a b c y d e f"},
		{"a b c d e", "", "p q r"},
		{"", "a b", "a b"},
	} {
		base, left, right := text(c[0]), text(c[1]), text(c[2])
		first := pieces(t, base, left, right)
		known := copied(first)
		got := pieces(t, base, left, right)
		for i := range got {
			for k := range 3 {
				wanted := copied(got)
				scribble(*listsOf(&got[i])[k])
				for n := range *listsOf(&wanted[i])[k] {
					(*listsOf(&wanted[i])[k])[n] = "scribbled"
				}
				if !same(got, wanted) || !same(first, known) {
					t.Fatalf("behind a write into list %d of piece %d: %s, want %s", k, i, tell(got), tell(wanted))
				}
			}
		}
		clear(got[:cap(got)])
		if again := pieces(t, base, left, right); !same(first, known) || !same(again, known) {
			t.Errorf("behind a write into the pieces: %s and %s, want %s", tell(first), tell(again), tell(known))
		}
	}
}
