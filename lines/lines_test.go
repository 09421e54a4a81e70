package lines_test

import (
	"math/rand"
	"slices"
	"strings"
	"testing"

	"tether/api"
	"tether/lines"
)

// model tells a text's lines byte by byte.
func model(s string) []string {
	var list []string
	line := ""
	for i := range len(s) {
		line += s[i : i+1]
		if s[i] == 10 {
			list, line = append(list, line), ""
		}
	}
	if line != "" {
		list = append(list, line)
	}
	return list
}

// modelText is what 11.2 says of a text, told in another way.
func modelText(s string) api.Errno {
	if slices.Contains([]byte(s), 0) {
		return api.ErrBinary
	}
	if len(model(s)) > api.MaxLines {
		return api.ErrLimit
	}
	return api.OK
}

// held holds all that is said of one text against the model.
func held(t *testing.T, s string) {
	t.Helper()
	wanted := model(s)
	if l := lines.Split(s); !slices.Equal(l, wanted) {
		t.Fatalf("Split(%.60q) = %.60q, want %.60q", s, l, wanted)
	}
	if n := lines.Count(s); n != len(wanted) {
		t.Fatalf("Count(%.60q) = %d, want %d", s, n, len(wanted))
	}
	if again := lines.Join(lines.Split(s)); again != s {
		t.Fatalf("Join(Split(%.60q)) = %.60q", s, again)
	}
	if e := lines.Text(s); e != modelText(s) {
		t.Fatalf("Text(%.60q) = %d, want %d", s, e, modelText(s))
	}
}

// 11.1: the chapter's examples, and ends of lines at all places.
func TestSplit(t *testing.T) {
	for s, wanted := range map[string][]string{
		"":              nil,
		"a":             {"a"},
		"a\n":           {"a\n"},
		"a\nb":          {"a\n", "b"},
		"a\nb\n":        {"a\n", "b\n"},
		"\n":            {"\n"},
		"\n\n":          {"\n", "\n"},
		"\na":           {"\n", "a"},
		"a\n\nb":        {"a\n", "\n", "b"},
		"a\n\n":         {"a\n", "\n"},
		" \n ":          {" \n", " "},
		"ab cd\nef gh":  {"ab cd\n", "ef gh"},
		"a\nä\n\u2028ß": {"a\n", "ä\n", "\u2028ß"},
	} {
		if l := lines.Split(s); !slices.Equal(l, wanted) {
			t.Errorf("Split(%q) = %q, want %q", s, l, wanted)
		}
		if n := lines.Count(s); n != len(wanted) {
			t.Errorf("Count(%q) = %d, want %d", s, n, len(wanted))
		}
	}
}

// 11.1: of all bytes the 10 alone ends a line, and no byte is lost or changed.
func TestBytes(t *testing.T) {
	for i := range 256 {
		c := string([]byte{byte(i)})
		for _, s := range []string{c, c + c, "a" + c, c + "a", "a" + c + "b", "\n" + c, c + "\n", "\r" + c, c + "\r"} {
			held(t, s)
		}
	}
}

// 11.1: lists that Split doesn't answer are joined too, as they are.
func TestJoin(t *testing.T) {
	for _, c := range []struct {
		list   []string
		wanted string
	}{
		{nil, ""},
		{[]string{}, ""},
		{[]string{""}, ""},
		{[]string{"", ""}, ""},
		{[]string{"a"}, "a"},
		{[]string{"a", "b"}, "ab"},
		{[]string{"a\n", "b"}, "a\nb"},
		{[]string{"b\n", "a\n"}, "b\na\n"},
		{[]string{"a\nb\n", "", "\n", "\x00\xff"}, "a\nb\n\n\x00\xff"},
	} {
		if s := lines.Join(c.list); s != c.wanted {
			t.Errorf("Join(%q) = %q, want %q", c.list, s, c.wanted)
		}
	}
}

// 11.1: a text of any length has its lines, and no limit.
func TestLong(t *testing.T) {
	const many = 1 << 17
	for _, c := range []struct {
		s string
		n int
	}{
		{strings.Repeat("x", many), 1},
		{strings.Repeat("x", many) + "\n", 1},
		{strings.Repeat("\n", many), many},
		{strings.Repeat("ab\n", many), many},
		{strings.Repeat("ab\n", many) + "c", many + 1},
	} {
		l := lines.Split(c.s)
		if len(l) != c.n || lines.Count(c.s) != c.n || lines.Join(l) != c.s {
			t.Errorf("%d bytes: %d lines, %d counted, want %d", len(c.s), len(l), lines.Count(c.s), c.n)
		}
		if slices.Contains(l, "") {
			t.Errorf("%d bytes: an empty line", len(c.s))
		}
	}
}

// 11.2: as many lines as may be and one more, with and without an end, and bytes that are none of a text.
func TestText(t *testing.T) {
	full := strings.Repeat("a\n", api.MaxLines)
	short := strings.Repeat("a\n", api.MaxLines-1)
	for s, wanted := range map[string]api.Errno{
		"":                      api.OK,
		"a":                     api.OK,
		"\n":                    api.OK,
		"\x01\x7f\x80\xff":      api.OK,
		"0":                     api.OK,
		"\x00":                  api.ErrBinary,
		"\x00a":                 api.ErrBinary,
		"a\x00b\n":              api.ErrBinary,
		"a\n\x00":               api.ErrBinary,
		short:                   api.OK,
		short + "a":             api.OK,
		short + "\n":            api.OK,
		full:                    api.OK,
		full + "a":              api.ErrLimit,
		full + "\n":             api.ErrLimit,
		full + full:             api.ErrLimit,
		full + "\x00":           api.ErrBinary,
		"\x00" + full + "a":     api.ErrBinary,
		full + full + "a\x00":   api.ErrBinary,
		short + "\x00":          api.ErrBinary,
		short + "a\r\r\v\f\x1e": api.OK,
	} {
		if e := lines.Text(s); e != wanted {
			t.Errorf("Text of %d bytes, %d lines = %d, want %d", len(s), lines.Count(s), e, wanted)
		}
	}
}

// 11.2: lines are limited, their bytes aren't.
func TestTextBytes(t *testing.T) {
	for _, n := range []int{api.MaxData, api.MaxData + 1, 1 << 20} {
		if e := lines.Text(strings.Repeat("x", n)); e != api.OK {
			t.Errorf("Text of a line of %d bytes = %d", n, e)
		}
		if e := lines.Text(strings.Repeat("x", n) + "\x00"); e != api.ErrBinary {
			t.Errorf("Text of %d bytes and a 0 = %d", n, e)
		}
	}
	if e := lines.Text(strings.Repeat("\n", 1<<20)); e != api.ErrLimit {
		t.Errorf("Text of very many lines = %d", e)
	}
}

// 11.3: the last element alone gets an end, if it has none.
func TestClosed(t *testing.T) {
	for _, c := range []struct{ list, wanted []string }{
		{nil, nil},
		{[]string{}, nil},
		{[]string{""}, []string{"\n"}},
		{[]string{"\n"}, []string{"\n"}},
		{[]string{"a"}, []string{"a\n"}},
		{[]string{"a\n"}, []string{"a\n"}},
		{[]string{"a\n", "b"}, []string{"a\n", "b\n"}},
		{[]string{"a\n", "b\n"}, []string{"a\n", "b\n"}},
		{[]string{"a\n", ""}, []string{"a\n", "\n"}},
		{[]string{"a", "b"}, []string{"a", "b\n"}},
		{[]string{"", "", "b\n"}, []string{"", "", "b\n"}},
		{[]string{"a\nb"}, []string{"a\nb\n"}},
		{[]string{"a\n\n"}, []string{"a\n\n"}},
		{[]string{"a\r"}, []string{"a\r\n"}},
		{[]string{"a\n\r"}, []string{"a\n\r\n"}},
		{[]string{"a\x00\xff"}, []string{"a\x00\xff\n"}},
	} {
		if l := lines.Closed(c.list); !slices.Equal(l, c.wanted) {
			t.Errorf("Closed(%q) = %q, want %q", c.list, l, c.wanted)
		}
	}
}

// 11.1, 11.3: the example: of a, line's end, b the second line has no end, closed it has one.
func TestExample(t *testing.T) {
	l := lines.Split("a\nb")
	if !slices.Equal(l, []string{"a\n", "b"}) || lines.Join(lines.Closed(l)) != "a\nb\n" {
		t.Errorf("Split(a, line's end, b) = %q, closed %q", l, lines.Closed(l))
	}
	if l := lines.Split(""); len(l) != 0 || len(lines.Closed(l)) != 0 {
		t.Errorf("Split of nothing = %q", l)
	}
}

// 11.1, 11.2, 11.4: all texts of up to seven bytes out of a few.
func TestAll(t *testing.T) {
	const letters = "a\n\r\x00"
	var grow func(s string)
	grow = func(s string) {
		held(t, s)
		if len(s) == 7 {
			return
		}
		for i := range letters {
			grow(s + letters[i:i+1])
		}
	}
	grow("")
}

// 11.1 to 11.4: random texts of any bytes, short and long, around the limit of lines among them.
func TestRandom(t *testing.T) {
	source := rand.New(rand.NewSource(11))
	for range 2000 {
		s := make([]byte, source.Intn(api.MaxData+1)>>source.Intn(12))
		often := 1 + source.Intn(12)
		for i := range s {
			s[i] = byte(1 + source.Intn(255))
			if source.Intn(often) == 0 {
				s[i] = '\n'
			}
		}
		if len(s) > 0 && source.Intn(4) == 0 {
			s[source.Intn(len(s))] = 0
		}
		text := string(s)
		held(t, text)
		closed := lines.Join(lines.Closed(lines.Split(text)))
		if closed != text && closed != text+"\n" || closed != "" && !strings.HasSuffix(closed, "\n") {
			t.Fatalf("closed, %.60q is %.60q", text, closed)
		}
	}
}

// room answers a list with spare room behind it, and the list with that room.
func room(list ...string) (short, whole []string) {
	whole = append(slices.Clone(list), "spare", "room")
	return whole[:len(list)], whole
}

// scribble writes over a list and its spare room.
func scribble(list []string) {
	for i := range list[:cap(list)] {
		list[:cap(list)][i] = "scribbled"
	}
}

// Rule 4: lists that are handed in aren't changed, spare room included.
func TestGiven(t *testing.T) {
	for _, list := range [][]string{{}, {""}, {"a"}, {"a\n"}, {"a\n", "b"}, {"a", "b\n"}} {
		short, whole := room(list...)
		before := slices.Clone(whole)
		lines.Join(short)
		lines.Closed(short)
		if !slices.Equal(whole, before) {
			t.Errorf("%q became %q", before, whole)
		}
	}
}

// Rule 4: answers share no memory with what was handed in, nor with earlier answers.
func TestNew(t *testing.T) {
	const text = "a\nb\nc"
	first := lines.Split(text)
	scribble(lines.Split(text))
	scribble(lines.Closed(first))
	if !slices.Equal(first, []string{"a\n", "b\n", "c"}) {
		t.Errorf("Split's first answer became %q", first)
	}
	for _, list := range [][]string{{}, {"a"}, {"a\n"}, {"a\n", "b"}} {
		short, whole := room(list...)
		before := slices.Clone(whole)
		closed := lines.Closed(short)
		wanted := slices.Clone(closed)
		scribble(lines.Closed(short))
		scribble(whole)
		if !slices.Equal(closed, wanted) {
			t.Errorf("Closed(%q)'s answer became %q", list, closed)
		}
		copy(whole, before)
		scribble(closed)
		if !slices.Equal(whole, before) {
			t.Errorf("Closed(%q)'s argument became %q", list, whole)
		}
	}
}
