package wire_test

import (
	"encoding/binary"
	"math"
	"math/rand"
	"strings"
	"testing"

	"tether/api"
	"tether/wire"
)

// edges are numbers about each place at which a varint gets a byte more, and both ends of an int.
func edges() []int {
	list := []int{0, math.MaxInt, math.MinInt, math.MaxInt - 1, math.MinInt + 1}
	for shift := range 63 {
		for near := -2; near <= 2; near++ {
			list = append(list, 1<<shift+near, -1<<shift+near)
		}
	}
	source := rand.New(rand.NewSource(1))
	for range 2000 {
		list = append(list, int(source.Uint64()>>source.Intn(64)))
	}
	return list
}

func pack(t *testing.T, n int) string {
	t.Helper()
	s, e := wire.Uint(n)
	if e != api.OK {
		t.Fatalf("Uint(%d): error %d", n, e)
	}
	return s
}

// 1.1
func TestUintWrites(t *testing.T) {
	examples := map[int]string{
		0: "\x00", 1: "\x01", 127: "\x7f", 128: "\x80\x01", 300: "\xac\x02", 16383: "\xff\x7f", 16384: "\x80\x80\x01",
		math.MaxInt: strings.Repeat("\xff", 8) + "\x7f",
	}
	for n, want := range examples {
		if s, e := wire.Uint(n); s != want || e != api.OK {
			t.Errorf("Uint(%d) = %x, %d; want %x", n, s, e, want)
		}
	}
	for _, n := range edges() {
		s, e := wire.Uint(n)
		if n < 0 {
			if s != "" || e != api.ErrInput {
				t.Errorf("Uint(%d) = %x, %d; want ErrInput", n, s, e)
			}
			continue
		}
		if want := string(binary.AppendUvarint(nil, uint64(n))); s != want || e != api.OK {
			t.Errorf("Uint(%d) = %x, %d; want %x", n, s, e, want)
		}
	}
}

// 1.2
func TestIntWrites(t *testing.T) {
	examples := map[int]string{
		0: "\x00", -1: "\x01", 1: "\x02", -2: "\x03", 63: "\x7e", -64: "\x7f", 64: "\x80\x01", -65: "\x81\x01",
		math.MaxInt: "\xfe" + strings.Repeat("\xff", 8) + "\x01",
		math.MinInt: strings.Repeat("\xff", 9) + "\x01",
	}
	for n, want := range examples {
		if s := wire.Int(n); s != want {
			t.Errorf("Int(%d) = %x; want %x", n, s, want)
		}
	}
	for _, n := range edges() {
		if s, want := wire.Int(n), string(binary.AppendVarint(nil, int64(n))); s != want {
			t.Errorf("Int(%d) = %x; want %x", n, s, want)
		}
	}
}

// 1.3
func TestTextWrites(t *testing.T) {
	long := strings.Repeat("x", 300)
	examples := map[string]string{
		"": "\x00", "ab": "\x02ab", "\x00": "\x01\x00", "\xff\xfe": "\x02\xff\xfe", "ä": "\x02ä",
		long[:127]: "\x7f" + long[:127], long[:128]: "\x80\x01" + long[:128], long: "\xac\x02" + long,
	}
	for s, want := range examples {
		if got := wire.Text(s); got != want {
			t.Errorf("Text(%q) = %x; want %x", s, got, want)
		}
	}
}

// 1.3
func TestJoin(t *testing.T) {
	for _, c := range []struct {
		parts []string
		want  string
	}{
		{nil, ""}, {[]string{""}, ""}, {[]string{"a"}, "a"}, {[]string{"a", "", "bc"}, "abc"},
		{[]string{"\xff", "\x00", "\xc3", "\xa4"}, "\xff\x00ä"}, {[]string{"c", "b", "a"}, "cba"},
	} {
		if got := wire.Join(c.parts...); got != c.want {
			t.Errorf("Join(%q) = %q; want %q", c.parts, got, c.want)
		}
	}
}

// 1.3, rule 4
func TestJoinKeepsNothing(t *testing.T) {
	room := []string{"a", "b", "c"}
	got := wire.Join(room[:2]...)
	if room[0] != "a" || room[1] != "b" || room[2] != "c" {
		t.Errorf("Join has changed its parts: %q", room)
	}
	room[0], room[1] = "x", "y"
	if got != "ab" {
		t.Errorf("Join's answer has become %q", got)
	}
}

// 1.4
func TestReadersStandEachForItself(t *testing.T) {
	s := "\x05\x02ab"
	one, two := wire.New(s), wire.New(s)
	if one.Left() != 4 || two.Left() != 4 {
		t.Fatalf("at first %d and %d are left", one.Left(), two.Left())
	}
	if n, e := one.Uint(); n != 5 || e != api.OK || one.Left() != 3 {
		t.Errorf("Uint = %d, %d; %d left", n, e, one.Left())
	}
	if text, e := one.Text(); text != "ab" || e != api.OK || one.Left() != 0 {
		t.Errorf("Text = %q, %d; %d left", text, e, one.Left())
	}
	if two.Left() != 4 {
		t.Errorf("the other reader has moved: %d left", two.Left())
	}
}

// 1.4: the calls that are refused are asked at one reader, ahead of one that isn't.
func TestRefusedCallsDontMove(t *testing.T) {
	big := strings.Repeat("\xff", 9) + "\x01"
	r := wire.New(big + "\x03x")
	for range 3 {
		if n, e := r.Uint(); n != 0 || e != api.ErrForm || r.Left() != 12 {
			t.Errorf("Uint = %d, %d; %d left", n, e, r.Left())
		}
		if s, e := r.Text(); s != "" || e != api.ErrForm || r.Left() != 12 {
			t.Errorf("Text = %q, %d; %d left", s, e, r.Left())
		}
	}
	if n, e := r.Int(); n != math.MinInt || e != api.OK || r.Left() != 2 {
		t.Errorf("Int = %d, %d; %d left", n, e, r.Left())
	}
	if s, e := r.Text(); s != "" || e != api.ErrShort || r.Left() != 2 {
		t.Errorf("Text = %q, %d; %d left", s, e, r.Left())
	}
	if n, e := r.Uint(); n != 3 || e != api.OK || r.Left() != 1 {
		t.Errorf("Uint = %d, %d; %d left", n, e, r.Left())
	}
	if n, e := r.Int(); n != 60 || e != api.OK || r.Left() != 0 {
		t.Errorf("Int = %d, %d; %d left", n, e, r.Left())
	}
	for range 2 {
		if n, e := r.Int(); n != 0 || e != api.ErrShort || r.Left() != 0 {
			t.Errorf("Int at the end = %d, %d; %d left", n, e, r.Left())
		}
	}
}

// numbers reads a number from 0 on and any number, each at the beginning of s.
func numbers(s string) (up, upLeft int, upErr api.Errno, signed, signedLeft int, signedErr api.Errno) {
	r, q := wire.New(s), wire.New(s)
	up, upErr = r.Uint()
	signed, signedErr = q.Int()
	return up, r.Left(), upErr, signed, q.Left(), signedErr
}

// 1.5
func TestNumbersThatAreRefused(t *testing.T) {
	ff, eighty := strings.Repeat("\xff", 9), strings.Repeat("\x80", 9)
	for s, want := range map[string]api.Errno{
		"": api.ErrShort, "\x80": api.ErrShort, "\xff": api.ErrShort, "\xff\x80": api.ErrShort,
		ff: api.ErrShort, eighty: api.ErrShort,
		"\x80\x00": api.ErrForm, "\xff\x00": api.ErrForm, "\x80\x80\x00": api.ErrForm, "\x80\x00\x01": api.ErrForm,
		ff[:8] + "\x00": api.ErrForm, ff + "\x00": api.ErrForm, eighty + "\x00": api.ErrForm,
		ff + "\x02": api.ErrForm, ff + "\x7f": api.ErrForm, ff + "\x80": api.ErrForm, eighty + "\x80\x01": api.ErrForm,
		ff + "\xff": api.ErrForm, ff + "\x81\x00": api.ErrForm,
	} {
		up, upLeft, upErr, signed, signedLeft, signedErr := numbers(s)
		if up != 0 || upErr != want || upLeft != len(s) {
			t.Errorf("Uint of %x = %d, %d; %d left; want %d", s, up, upErr, upLeft, want)
		}
		if signed != 0 || signedErr != want || signedLeft != len(s) {
			t.Errorf("Int of %x = %d, %d; %d left; want %d", s, signed, signedErr, signedLeft, want)
		}
		r := wire.New(s)
		if text, e := r.Text(); text != "" || e != want || r.Left() != len(s) {
			t.Errorf("Text of %x = %q, %d; %d left; want %d", s, text, e, r.Left(), want)
		}
	}
}

// 1.5: what is too great for a number from 0 on is still any number.
func TestNumbersFromTwoToTheSixtyThree(t *testing.T) {
	for s, want := range map[string]int{
		strings.Repeat("\x80", 9) + "\x01":          1 << 62,
		"\x81" + strings.Repeat("\x80", 8) + "\x01": -1<<62 - 1,
		"\xfe" + strings.Repeat("\xff", 8) + "\x01": math.MaxInt,
		strings.Repeat("\xff", 9) + "\x01":          math.MinInt,
	} {
		up, upLeft, upErr, signed, signedLeft, signedErr := numbers(s + "z")
		if up != 0 || upErr != api.ErrForm || upLeft != 11 {
			t.Errorf("Uint of %x = %d, %d; %d left", s, up, upErr, upLeft)
		}
		if signed != want || signedErr != api.OK || signedLeft != 1 {
			t.Errorf("Int of %x = %d, %d; %d left; want %d", s, signed, signedErr, signedLeft, want)
		}
	}
	up, left, e, _, _, _ := numbers(strings.Repeat("\xff", 8) + "\x7fz")
	if up != math.MaxInt || e != api.OK || left != 1 {
		t.Errorf("Uint of 2^63 - 1 = %d, %d; %d left", up, e, left)
	}
}

// 1.5
func TestTextReads(t *testing.T) {
	huge := strings.Repeat("\xff", 8) + "\x7f"
	for _, c := range []struct {
		s, text string
		left    int
		e       api.Errno
	}{
		{"\x00", "", 0, api.OK}, {"\x00x", "", 1, api.OK}, {"\x02ab", "ab", 0, api.OK}, {"\x02abc", "ab", 1, api.OK},
		{"\x01\x00", "\x00", 0, api.OK}, {"\x02\xff\xfe\x80", "\xff\xfe", 1, api.OK},
		{"\x01", "", 1, api.ErrShort}, {"\x02a", "", 2, api.ErrShort}, {"\x80\x01" + strings.Repeat("x", 127), "", 129, api.ErrShort},
		{huge, "", 9, api.ErrShort}, {huge + "abc", "", 12, api.ErrShort},
	} {
		r := wire.New(c.s)
		if text, e := r.Text(); text != c.text || e != c.e || r.Left() != c.left {
			t.Errorf("Text of %x = %q, %d; %d left; want %q, %d; %d left", c.s, text, e, r.Left(), c.text, c.e, c.left)
		}
	}
}

// 1.6
func TestLeftAndDone(t *testing.T) {
	empty := wire.New("")
	if empty.Left() != 0 || empty.Done() != api.OK {
		t.Errorf("of nothing: %d left, Done %d", empty.Left(), empty.Done())
	}
	r := wire.New("\x80\x01\x01a")
	if r.Left() != 4 || r.Done() != api.ErrTail {
		t.Errorf("at first: %d left, Done %d", r.Left(), r.Done())
	}
	if n, e := r.Uint(); n != 128 || e != api.OK || r.Left() != 2 || r.Done() != api.ErrTail {
		t.Errorf("behind %d, %d: %d left, Done %d", n, e, r.Left(), r.Done())
	}
	if s, e := r.Text(); s != "a" || e != api.OK || r.Left() != 0 || r.Done() != api.OK || r.Done() != api.OK {
		t.Errorf("behind %q, %d: %d left, Done %d", s, e, r.Left(), r.Done())
	}
}

// The chapter's third example.
func TestExampleOfReading(t *testing.T) {
	r := wire.New("\x03\x02ab\x05x")
	if n, e := r.Int(); n != -2 || e != api.OK {
		t.Errorf("Int = %d, %d", n, e)
	}
	if s, e := r.Text(); s != "ab" || e != api.OK {
		t.Errorf("Text = %q, %d", s, e)
	}
	if s, e := r.Text(); s != "" || e != api.ErrShort {
		t.Errorf("Text = %q, %d", s, e)
	}
	if r.Left() != 2 || r.Done() != api.ErrTail {
		t.Errorf("%d left, Done %d", r.Left(), r.Done())
	}
	if n, e := r.Uint(); n != 5 || e != api.OK {
		t.Errorf("Uint = %d, %d", n, e)
	}
}

// 1.7: what was written is read back.
func TestWrittenIsReadBack(t *testing.T) {
	list := edges()
	var parts []string
	for i, n := range list {
		parts = append(parts, wire.Int(n), wire.Text(strings.Repeat("\x80", i%300)))
		if n >= 0 {
			parts = append(parts, pack(t, n))
		}
	}
	r := wire.New(wire.Join(parts...))
	for i, n := range list {
		if got, e := r.Int(); got != n || e != api.OK {
			t.Fatalf("Int = %d, %d; want %d", got, e, n)
		}
		if got, e := r.Text(); got != strings.Repeat("\x80", i%300) || e != api.OK {
			t.Fatalf("Text = %x, %d; want %d bytes", got, e, i%300)
		}
		if n < 0 {
			continue
		}
		if got, e := r.Uint(); got != n || e != api.OK {
			t.Fatalf("Uint = %d, %d; want %d", got, e, n)
		}
	}
	if r.Left() != 0 || r.Done() != api.OK {
		t.Errorf("%d left, Done %d", r.Left(), r.Done())
	}
}

// checkOneForm reads s in all three ways: what is read must be written in just the bytes that were read.
func checkOneForm(t *testing.T, s string) {
	t.Helper()
	r := wire.New(s)
	if n, e := r.Uint(); e == api.OK && pack(t, n) != s[:len(s)-r.Left()] {
		t.Errorf("Uint of %x = %d, which isn't written so", s, n)
	}
	r = wire.New(s)
	if n, e := r.Int(); e == api.OK && wire.Int(n) != s[:len(s)-r.Left()] {
		t.Errorf("Int of %x = %d, which isn't written so", s, n)
	}
	r = wire.New(s)
	if text, e := r.Text(); e == api.OK && wire.Text(text) != s[:len(s)-r.Left()] {
		t.Errorf("Text of %x = %x, which isn't written so", s, text)
	}
}

// 1.7: what is read are just the bytes in which it is written.
func TestReadIsAsWritten(t *testing.T) {
	for a := range 256 {
		checkOneForm(t, string([]byte{byte(a)}))
		for b := range 256 {
			checkOneForm(t, string([]byte{byte(a), byte(b)}))
		}
	}
	source := rand.New(rand.NewSource(2))
	near := []byte{0, 1, 2, 3, 0x7f, 0x80, 0x81, 0xfe, 0xff, 0xff, 0xff, 0xff, 0x80, 0x80, 0x80, 0x80}
	for range 100000 {
		s := make([]byte, source.Intn(13))
		for i := range s {
			s[i] = near[source.Intn(len(near))]
		}
		checkOneForm(t, string(s))
	}
}

// 1.8
func TestNilReader(t *testing.T) {
	var r *wire.Reader
	if n, e := r.Uint(); n != 0 || e != api.ErrInput {
		t.Errorf("Uint = %d, %d", n, e)
	}
	if n, e := r.Int(); n != 0 || e != api.ErrInput {
		t.Errorf("Int = %d, %d", n, e)
	}
	if s, e := r.Text(); s != "" || e != api.ErrInput {
		t.Errorf("Text = %q, %d", s, e)
	}
	if r.Left() != 0 || r.Done() != api.ErrInput {
		t.Errorf("%d left, Done %d", r.Left(), r.Done())
	}
}
