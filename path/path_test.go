package path_test

import (
	"math"
	"math/rand"
	"regexp"
	"slices"
	"strings"
	"testing"

	"tether/api"
	"tether/path"
)

var oneName = regexp.MustCompile(`^[a-z0-9_]{1,12}$`)

// isPath is what 3.1 says of a path, told in another way.
func isPath(p string, deep int) bool {
	names := strings.Split(p, "/")
	return len(names) <= deep && !slices.ContainsFunc(names, func(s string) bool { return !oneName.MatchString(s) })
}

// anyTexts are texts of few letters, strokes and bytes that no name has, so that strokes stand in all places.
func anyTexts() []string {
	list := []string{"", "/", "//", "a", "a/", "/a", "a//b", "/a/", "a/b/c", "ab", "A/B", "ä/ö", "\xff/\x80", "\x00", "a\x00/b", " / "}
	source := rand.New(rand.NewSource(3))
	const letters = "ab0_//\xff"
	for range 1000 {
		s := make([]byte, source.Intn(9))
		for i := range s {
			s[i] = letters[source.Intn(len(letters))]
		}
		list = append(list, string(s))
	}
	return list
}

// somePaths are paths of one to three names, by rising text, none twice.
func somePaths() []string {
	names := []string{"a", "b", "ab", "a0", "a_", "az", "0", "9", "_", "z", "__", "a00", "abcdefghijkl"}
	var list []string
	for _, one := range names {
		list = append(list, one)
		for _, two := range names {
			list = append(list, one+"/"+two, one+"/"+two+"/"+one, one+"/"+two+"/0")
		}
	}
	slices.Sort(list)
	return slices.Compact(list)
}

func wantName(t *testing.T, s string, want bool) {
	t.Helper()
	if got := path.Name(s); got != want {
		t.Errorf("Name(%q) = %t; want %t", s, got, want)
	}
}

func wantCheck(t *testing.T, p string, deep int, want api.Errno) {
	t.Helper()
	if got := path.Check(p, deep); got != want {
		t.Errorf("Check(%q, %d) = %d; want %d", p, deep, got, want)
	}
}

// 3.1
func TestNameHasItsBytesAlone(t *testing.T) {
	const letters = "abcdefghijklmnopqrstuvwxyz0123456789_"
	for b := range 256 {
		one := string([]byte{byte(b)})
		want := strings.IndexByte(letters, byte(b)) >= 0
		wantName(t, one, want)
		wantName(t, "a"+one, want)
		wantName(t, one+"a", want)
		wantName(t, "a"+one+"a", want)
	}
}

// 3.1: a letter of several bytes is none of a name's, not even where its number ends in the byte of one that is.
func TestNameRefusesLongLetters(t *testing.T) {
	for _, letter := range []rune{0x80, 0xe4, 0x130, 0x15f, 0x161, 0x17a, 0x661, 0x6161, 0xfffd, 0xff41, 0x10061, 0x10ffff} {
		wantName(t, string(letter), false)
		wantName(t, "a"+string(letter), false)
		wantName(t, string(letter)+"a", false)
	}
	for _, s := range []string{"\xc3", "a\xc3", "\xc3a", "\xed\xa0\x80", "\xc1\xa1", "a\xf4\x90\x80\x80"} {
		wantName(t, s, false)
	}
}

// 3.1
func TestNameHasOneToMaxNameBytes(t *testing.T) {
	wantName(t, "", false)
	for n := 1; n < 3*api.MaxName; n++ {
		wantName(t, strings.Repeat("a", n), n <= api.MaxName)
	}
	wantName(t, strings.Repeat("z", 1<<16), false)
	wantName(t, "a/b", false)
	for _, s := range []string{"a", "z", "0", "9", "_", "b_1", "0_", "________", "abcdefghijkl"} {
		wantName(t, s, true)
	}
}

// 3.1
func TestCheckExamples(t *testing.T) {
	for _, p := range []string{"a", "a/b_1", "a/b/c", "a0_/z9", "abcdefghijkl", "_/_/_", "abcdefghijkl/abcdefghijkl/abcdefghijkl"} {
		wantCheck(t, p, 3, api.OK)
	}
	for _, p := range []string{
		"", "/", "//", "/a", "a/", "a//b", "A", "a.b", "abcdefghijklm", "a/b/", "/a/b", "a/b//", "a/B", "A/b", "a/abcdefghijklm", "abcdefghijklm/a",
		"a b", " a", "a ", ".", "..", "a/..", "a\\b", "a-b", "ä", "a/ä", "a\x00", "\xff", "a/\xff/b", "a\n", "a/b/c/d",
	} {
		wantCheck(t, p, 3, api.ErrPath)
	}
	wantCheck(t, "a/b_1", 2, api.OK)
	wantCheck(t, "a/b_1", 1, api.ErrPath)
}

// 3.1
func TestCheckCountsNames(t *testing.T) {
	for n := 1; n < 9; n++ {
		p := strings.Repeat("a/", n-1) + "a"
		for deep := -2; deep < 11; deep++ {
			want := api.ErrPath
			if n <= deep {
				want = api.OK
			}
			wantCheck(t, p, deep, want)
		}
		wantCheck(t, p, math.MaxInt, api.OK)
		wantCheck(t, p, math.MinInt, api.ErrPath)
	}
	long := strings.Repeat("a/", 1<<16)
	wantCheck(t, long+"a", math.MaxInt, api.OK)
	wantCheck(t, long+"a", 1<<16, api.ErrPath)
	wantCheck(t, long+"a", 1<<16+1, api.OK)
	wantCheck(t, long, math.MaxInt, api.ErrPath)
	for _, deep := range []int{math.MinInt, -1, 0, 1, api.MaxDeep, math.MaxInt} {
		wantCheck(t, "", deep, api.ErrPath)
	}
}

// 3.1
func TestCheckOfAnyTexts(t *testing.T) {
	for _, p := range anyTexts() {
		for deep := range 10 {
			want := api.ErrPath
			if isPath(p, deep) {
				want = api.OK
			}
			wantCheck(t, p, deep, want)
		}
	}
}

// 3.2
func TestParentAndBase(t *testing.T) {
	for _, x := range []struct{ p, parent, base string }{
		{"", "", ""}, {"a", "", "a"}, {"a/b", "a", "b"}, {"a/b/c", "a/b", "c"}, {"/", "", ""}, {"/a", "", "a"}, {"a/", "a", ""}, {"a//", "a/", ""},
		{"a//b", "a/", "b"}, {"//", "/", ""}, {"//a", "/", "a"}, {"A.B/ä", "A.B", "ä"}, {"\xff/\x80", "\xff", "\x80"}, {"a\\b", "", "a\\b"},
	} {
		if got := path.Parent(x.p); got != x.parent {
			t.Errorf("Parent(%q) = %q; want %q", x.p, got, x.parent)
		}
		if got := path.Base(x.p); got != x.base {
			t.Errorf("Base(%q) = %q; want %q", x.p, got, x.base)
		}
	}
	for _, p := range anyTexts() {
		names := strings.Split(p, "/")
		last := len(names) - 1
		if got, want := path.Parent(p), strings.Join(names[:last], "/"); got != want {
			t.Errorf("Parent(%q) = %q; want %q", p, got, want)
		}
		if got := path.Base(p); got != names[last] {
			t.Errorf("Base(%q) = %q; want %q", p, got, names[last])
		}
	}
}

// 3.2
func TestJoin(t *testing.T) {
	for _, x := range []struct{ a, b, want string }{
		{"", "", ""}, {"a", "", "a"}, {"", "b", "b"}, {"a", "b", "a/b"}, {"a/b", "c", "a/b/c"}, {"a", "b/c", "a/b/c"}, {"a/", "b", "a//b"}, {"a", "/b", "a//b"},
		{"/", "/", "///"}, {"/", "", "/"}, {"", "/", "/"}, {"\xff", "A.", "\xff/A."},
	} {
		if got := path.Join(x.a, x.b); got != x.want {
			t.Errorf("Join(%q, %q) = %q; want %q", x.a, x.b, got, x.want)
		}
	}
}

// 3.3
func TestUnder(t *testing.T) {
	for _, x := range []struct {
		p, top string
		want   bool
	}{
		{"a/b", "a", true}, {"a", "a", true}, {"ab", "a", false}, {"a", "a/b", false}, {"a/b/c", "a", true}, {"a/b/c", "a/b", true}, {"a/bc", "a/b", false},
		{"b/a", "a", false}, {"a", "b", false}, {"a", "ab", false}, {"a_", "a", false}, {"a0/b", "a", false}, {"a.", "a", false}, {"x/a/b", "a/b", false},
		{"", "", true}, {"a", "", true}, {"/", "", true}, {"", "a", false}, {"", "/", false}, {"/", "/", true}, {"/a", "/", false}, {"//", "/", true}, {"//a", "/", true},
		{"a/", "a", true}, {"a//b", "a", true}, {"a/b", "a/", false}, {"a//b", "a/", true}, {"a/", "a/", true}, {"a", "a/", false},
		{"A/b", "a", false}, {"\xff/a", "\xff", true}, {"\xffa", "\xff", false},
	} {
		if got := path.Under(x.p, x.top); got != x.want {
			t.Errorf("Under(%q, %q) = %t; want %t", x.p, x.top, got, x.want)
		}
	}
}

// 3.3
func TestUnderOfAnyTexts(t *testing.T) {
	list := anyTexts()
	for _, top := range list {
		for _, p := range []string{top, top + "/", top + "/a", top + "a", top + "//", "a/" + top, strings.TrimSuffix(top, "a"), list[0]} {
			want := top == "" || p == top || strings.HasPrefix(p, top+"/")
			if got := path.Under(p, top); got != want {
				t.Errorf("Under(%q, %q) = %t; want %t", p, top, got, want)
			}
		}
	}
}

// 3.3
func TestDeep(t *testing.T) {
	for p, want := range map[string]int{
		"": 0, "a": 1, "a/b": 2, "a/b/c": 3, "/": 2, "//": 3, "/a": 2, "a/": 2, "a//b": 3, "A.": 1, "\xff": 1, "\xff/ä": 2, "a\\b": 1, " ": 1, "\x00": 1,
		strings.Repeat("/", 1<<16): 1<<16 + 1,
	} {
		if got := path.Deep(p); got != want {
			t.Errorf("Deep of %d bytes = %d; want %d", len(p), got, want)
		}
	}
	for _, p := range anyTexts() {
		if got := path.Deep(p); p != "" && got != len(strings.Split(p, "/")) {
			t.Errorf("Deep(%q) = %d", p, got)
		}
	}
}

// 3.4
func TestPathIsParentJoinedWithBase(t *testing.T) {
	for _, p := range somePaths() {
		wantCheck(t, p, 3, api.OK)
		parent, base := path.Parent(p), path.Base(p)
		if got := path.Join(parent, base); got != p {
			t.Errorf("Join(%q, %q) = %q; want %q", parent, base, got, p)
		}
		if !path.Name(base) || !path.Under(p, parent) || path.Deep(p) != path.Deep(parent)+1 {
			t.Errorf("%q has the parent %q and the base %q", p, parent, base)
		}
	}
}

// 3.4: by rising text, what is below a path stands right behind it, and nothing else does.
func TestPathStandsAheadOfAllBelowIt(t *testing.T) {
	list := somePaths()
	for i, top := range list {
		below := 0
		for _, p := range list {
			if p != top && path.Under(p, top) {
				below++
			}
		}
		for _, p := range list[i+1 : i+1+below] {
			if !path.Under(p, top) {
				t.Errorf("%q stands between %q and what is below it", p, top)
			}
		}
	}
}

// 3.4
func TestLettersAreAboveTheStroke(t *testing.T) {
	for b := range 256 {
		if one := string([]byte{byte(b)}); path.Name(one) && one <= "/" {
			t.Errorf("%q is a name's letter", one)
		}
	}
}
