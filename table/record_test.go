package table_test

import (
	"math/rand"
	"slices"
	"strings"
	"testing"

	"tether/api"
	"tether/table"
)

func someOps() []api.Op {
	long := strings.Repeat("k", 128)
	return []api.Op{
		{Key: "a", Value: "b"}, {Key: "c", Gone: true}, {Key: "", Value: ""}, {Key: "", Gone: true}, {Key: "a", Value: ""},
		{Key: "\x00\xff\n", Value: "\x80\x01"}, {Key: long, Value: strings.Repeat("v", 20000)}, {Key: long[1:], Gone: true}, {Key: "a", Value: "b"},
	}
}

func wantRefusedOps(t *testing.T, s string, wanted api.Errno) {
	t.Helper()
	if ops, e := table.Ops(s); len(ops) != 0 || e != wanted {
		t.Errorf("Ops(%q) = %v, %d; want none and %d", s, ops, e, wanted)
	}
}

func wantOps(t *testing.T, s string, ops []api.Op) {
	t.Helper()
	if got, e := table.Ops(s); !slices.Equal(got, ops) || e != api.OK {
		t.Errorf("Ops(%q) = %v, %d; want %v", s, got, e, ops)
	}
}

// 7.1, and the chapter's example: the bytes of changes, both ways.
func TestRecordBytes(t *testing.T) {
	for s, ops := range map[string][]api.Op{
		"\x00":                                nil,
		"\x02\x01\x01a\x01b\x00\x01c":         {{Key: "a", Value: "b"}, {Key: "c", Gone: true}},
		"\x02\x00\x01c\x01\x01a\x01b":         {{Key: "c", Gone: true}, {Key: "a", Value: "b"}},
		"\x01\x01\x00\x00":                    {{}},
		"\x01\x00\x00":                        {{Gone: true}},
		"\x03\x01\x01a\x00\x00\x01a\x00\x01a": {{Key: "a"}, {Key: "a", Gone: true}, {Key: "a", Gone: true}},
		"\x01\x01\x80\x01" + strings.Repeat("k", 128) + "\x01\xff":    {{Key: strings.Repeat("k", 128), Value: "\xff"}},
		"\xac\x02" + strings.Repeat("\x00\x01x", 300):                 slices.Repeat([]api.Op{{Key: "x", Gone: true}}, 300),
		"\x01\x01\x00\xac\x02" + strings.Repeat("\x00", 300):          {{Value: strings.Repeat("\x00", 300)}},
		"\x01\x01\x06\x01\x01\x01a\x01b\x07\x01\x00\x00\x00\x01c\xff": {{Key: "\x01\x01\x01a\x01b", Value: "\x01\x00\x00\x00\x01c\xff"}},
	} {
		if got := table.Record(ops); got != s {
			t.Errorf("Record(%v) = %q, want %q", ops, got, s)
		}
		wantOps(t, s, ops)
	}
}

// 7.1: the value of a key that goes isn't told.
func TestRecordLeavesGoneValues(t *testing.T) {
	ops := []api.Op{{Key: "c", Value: "x", Gone: true}}
	if got := table.Record(ops); got != "\x01\x00\x01c" {
		t.Errorf("Record = %q", got)
	}
	if ops[0].Value != "x" {
		t.Error("Record has changed what it was given")
	}
}

// 7.1: what was told is read back.
func TestOpsReadBack(t *testing.T) {
	ops := someOps()
	for from := range ops {
		for to := from; to <= len(ops); to++ {
			wantOps(t, table.Record(ops[from:to]), ops[from:to])
		}
	}
}

// 7.1: each cut is ErrShort, each byte more is ErrTail.
func TestOpsCutAndTailed(t *testing.T) {
	s := table.Record(append(someOps()[:6:6], api.Op{Key: strings.Repeat("k", 130), Value: strings.Repeat("v", 130)}))
	for n := range len(s) {
		wantRefusedOps(t, s[:n], api.ErrShort)
	}
	for b := range 256 {
		wantRefusedOps(t, s+string([]byte{byte(b)}), api.ErrTail)
	}
	wantRefusedOps(t, "\x00x", api.ErrTail)
	wantRefusedOps(t, "\x00\x80", api.ErrTail)
	wantRefusedOps(t, s+s, api.ErrTail)
}

// 7.1: a number other than 0 and 1, wherever it stands, and what wire refuses, the first one first.
func TestOpsRefusals(t *testing.T) {
	nines := strings.Repeat("\xff", 9)
	for s, e := range map[string]api.Errno{
		"": api.ErrShort, "\x80": api.ErrShort, "\x80\x00": api.ErrForm, nines + "\x01": api.ErrForm, nines + "\x02": api.ErrForm,
		"\x01": api.ErrShort, "\x01\x80": api.ErrShort, "\x01\x80\x00\x01a": api.ErrForm, "\x01\x81\x00\x01a\x00": api.ErrForm, "\x01" + nines + "\x01": api.ErrForm,
		"\x01\x02\x01a": api.ErrForm, "\x01\x02\x01a\x01b": api.ErrForm, "\x01\x7f\x01a": api.ErrForm, "\x01\x80\x01\x01a": api.ErrForm, "\x01\x81\x01\x01a": api.ErrForm, "\x01\x80\x02\x01a": api.ErrForm,
		"\x01\xff\xff\xff\xff\xff\xff\xff\xff\x7f\x01a": api.ErrForm,
		"\x02\x01\x01a\x01b\x02\x01c":                   api.ErrForm, "\x02\x00\x01a\x03\x01b\x01c": api.ErrForm, "\x01\x02\x01ax": api.ErrForm,
		"\x01\x00": api.ErrShort, "\x01\x00\x01": api.ErrShort, "\x01\x00\x81\x00a": api.ErrForm, "\x01\x00" + nines + "\x01": api.ErrForm, "\x01\x00\x80": api.ErrShort,
		"\x01\x01": api.ErrShort, "\x01\x01\x01a": api.ErrShort, "\x01\x01\x01a\x01": api.ErrShort, "\x01\x01\x01a\x80\x00": api.ErrForm, "\x01\x01\x81\x00a\x01b": api.ErrForm,
		"\x02\x00\x02ab\x05\x01": api.ErrForm, "\x02\x00\x01a": api.ErrShort,
	} {
		wantRefusedOps(t, s, e)
	}
}

// 7.1, rule 1: a number of changes far beyond what stands there.
func TestOpsOfHugeNumbers(t *testing.T) {
	for _, count := range []string{"\xff\xff\xff\xff\xff\xff\xff\xff\x7f", "\xff\xff\xff\xff\x07", "\x80\x80\x80\x80\x80\x80\x80\x80\x40"} {
		wantRefusedOps(t, count, api.ErrShort)
		wantRefusedOps(t, count+"\x00\x01a", api.ErrShort)
		wantRefusedOps(t, count+"\x00\x01a\x02\x01b", api.ErrForm)
		wantRefusedOps(t, "\x01\x01"+count+"a", api.ErrShort)
		wantRefusedOps(t, "\x01\x01\x01a"+count+"b", api.ErrShort)
	}
}

// 7.1: bytes that are read are just those that are written.
func TestOpsOneForm(t *testing.T) {
	source := rand.New(rand.NewSource(7))
	kinds := []byte{0, 0, 0, 1, 1, 1, 2, 3, 'a', 127, 128, 255}
	read := 0
	for range 100000 {
		b := make([]byte, source.Intn(12))
		for i := range b {
			b[i] = kinds[source.Intn(len(kinds))]
		}
		ops, e := table.Ops(string(b))
		if e != api.OK {
			wantRefusedOps(t, string(b), e)
			continue
		}
		read++
		if got := table.Record(ops); got != string(b) {
			t.Errorf("Record of Ops(%q) = %q", b, got)
		}
	}
	if read < 1000 {
		t.Errorf("%d rows were read, too few", read)
	}
}

// Rule 4: no two answers of Ops share anything, and Record leaves the room behind its argument.
func TestRecordMemory(t *testing.T) {
	s := table.Record(someOps())
	list, _ := table.Ops(s)
	spare := list[:cap(list)]
	for i := range spare {
		spare[i] = api.Op{Key: "spoilt"}
	}
	wantOps(t, s, someOps())
	room := append(someOps(), someOps()...)
	if table.Record(room[:len(someOps())]) != s || !slices.Equal(room[len(someOps()):], someOps()) {
		t.Error("Record has written behind its argument")
	}
}
