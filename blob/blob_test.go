package blob_test

import (
	"fmt"
	"hash/crc32"
	"maps"
	"regexp"
	"slices"
	"strconv"
	"strings"
	"testing"

	"tether/api"
	"tether/blob"
	"tether/disk"
	"tether/table"
)

const (
	dir    = "sys"
	lowOfA = 0x43 // the low byte of the sum of "a"
)

// kept is a content as it should be kept.
type kept struct {
	held int
	data string
}

// model is what should be kept, by key.
type model map[string]kept

// groupOf answers what the key of a content begins with, reckoned by the library.
func groupOf(data string) string {
	return fmt.Sprintf("b/%02x/", crc32.ChecksumIEEE([]byte(data))&0xff)
}

func (m model) put(data string) string {
	for key, k := range m {
		if k.data == data {
			m[key] = kept{k.held + 1, data}
			return key
		}
	}
	for n := 0; ; n++ {
		key := groupOf(data) + strconv.Itoa(n)
		if _, taken := m[key]; !taken {
			m[key] = kept{1, data}
			return key
		}
	}
}

func (m model) release(key string) api.Errno {
	k, ok := m[key]
	if !ok {
		return api.ErrNone
	}
	if k.held == 1 {
		delete(m, key)
	} else {
		m[key] = kept{k.held - 1, k.data}
	}
	return api.OK
}

func (m model) sweep(held []string) int {
	gone := 0
	for _, key := range slices.Collect(maps.Keys(m)) {
		n := 0
		for _, h := range held {
			if h == key {
				n++
			}
		}
		if n == 0 {
			delete(m, key)
			gone++
		} else {
			m[key] = kept{n, m[key].data}
		}
	}
	return gone
}

func must(t *testing.T, errors ...api.Errno) {
	t.Helper()
	for i, e := range errors {
		if e != api.OK {
			t.Fatalf("call %d = %d", i, e)
		}
	}
}

func open(t *testing.T, d *disk.Disk) *table.Table {
	t.Helper()
	x, e := table.Open(d, dir)
	if e != api.OK {
		t.Fatalf("Open = %d", e)
	}
	return x
}

// batch is one of a new table.
func batch(t *testing.T) *table.Batch {
	t.Helper()
	return open(t, disk.New()).Begin()
}

func wantPut(t *testing.T, b *table.Batch, data, key string) {
	t.Helper()
	if got := blob.Put(b, data); got != key {
		t.Fatalf("Put(%.40q) = %q, want %q", data, got, key)
	}
}

func wantContent(t *testing.T, b *table.Batch, key, data string, refs int) {
	t.Helper()
	if got, e := blob.Get(b, key); got != data || e != api.OK {
		t.Fatalf("Get(%q) = %.40q, %d; want %.40q", key, got, e, data)
	}
	if got := blob.Refs(b, key); got != refs {
		t.Fatalf("Refs(%q) = %d, want %d", key, got, refs)
	}
}

func wantNone(t *testing.T, b *table.Batch, key string) {
	t.Helper()
	if data, e := blob.Get(b, key); data != "" || e != api.ErrNone {
		t.Fatalf("Get(%q) = %.40q, %d; want none", key, data, e)
	}
	if got := blob.Refs(b, key); got != 0 {
		t.Fatalf("Refs(%q) = %d, want 0", key, got)
	}
	if e := blob.Release(b, key); e != api.ErrNone {
		t.Fatalf("Release(%q) = %d, want none", key, e)
	}
}

func wantKeys(t *testing.T, b *table.Batch, prefix string, keys ...string) {
	t.Helper()
	if got := b.Keys(prefix); !slices.Equal(got, keys) {
		t.Fatalf("Keys(%q) = %q, want %q", prefix, got, keys)
	}
}

// wantKept holds all that is kept against the model.
func wantKept(t *testing.T, b *table.Batch, m model) {
	t.Helper()
	wantKeys(t, b, "b/", slices.Sorted(maps.Keys(m))...)
	for key, k := range m {
		wantContent(t, b, key, k.data, k.held)
	}
}

// alike are contents whose sums have this low byte.
func alike(low byte, count int) []string {
	var out []string
	for i := 0; len(out) < count; i++ {
		s := "content " + strconv.Itoa(i)
		if byte(crc32.ChecksumIEEE([]byte(s))) == low {
			out = append(out, s)
		}
	}
	return out
}

// The chapter's examples.
func TestExamples(t *testing.T) {
	b := batch(t)
	wantPut(t, b, "a", "b/43/0")
	wantPut(t, b, alike(lowOfA, 1)[0], "b/43/1")
	wantPut(t, b, "a", "b/43/0")
	wantContent(t, b, "b/43/0", "a", 2)
	wantPut(t, b, "", "b/00/0")
	wantContent(t, b, "b/00/0", "", 1)
}

// 8.1: each low byte has its two digits, which stand ahead of a number without a 0 ahead.
func TestKeys(t *testing.T) {
	form := regexp.MustCompile(`^b/[0-9a-f]{2}/(0|[1-9][0-9]*)$`)
	b := batch(t)
	m := model{}
	for low := range 256 {
		for n, data := range alike(byte(low), 3) {
			wantPut(t, b, data, fmt.Sprintf("b/%02x/%d", low, n))
			m.put(data)
		}
	}
	wantKept(t, b, m)
	for _, key := range b.Keys("b/") {
		if !form.MatchString(key) {
			t.Errorf("a key %q", key)
		}
	}
}

// 8.1: this layer puts no other keys than its contents', and leaves those of others.
func TestOtherKeys(t *testing.T) {
	others := []string{"", "B/43/0", "a/1", "b", "b.", "b0", "bb/43/0", "c", "v/1"}
	b := batch(t)
	for _, key := range others {
		b.Put(key, "of "+key)
	}
	first := blob.Put(b, "a")
	second := blob.Put(b, "b")
	blob.Put(b, "a")
	for _, key := range others {
		wantNone(t, b, key)
	}
	if n := blob.Sweep(b, append([]string{first, "none"}, others...)); n != 1 {
		t.Errorf("Sweep = %d", n)
	}
	wantNone(t, b, second)
	must(t, blob.Release(b, first))
	wantKeys(t, b, "", others...)
	for _, key := range others {
		if v, _ := b.Get(key); v != "of "+key {
			t.Errorf("%q has %q", key, v)
		}
	}
}

// 8.2: contents of the same digits have the numbers in turn, as numbers and not as texts, and are found again by each.
func TestNumbers(t *testing.T) {
	b := batch(t)
	m := model{}
	all := alike(lowOfA, 120)
	for n, data := range all {
		key := "b/43/" + strconv.Itoa(n)
		wantPut(t, b, data, key)
		m.put(data)
	}
	wantKept(t, b, m)
	for n := len(all) - 1; n >= 0; n-- {
		wantPut(t, b, all[n], "b/43/"+strconv.Itoa(n))
		m.put(all[n])
	}
	wantKept(t, b, m)
}

// 8.2: the least number that is free is taken, also below others; a content that is there keeps its own.
func TestLeastNumber(t *testing.T) {
	b := batch(t)
	all := alike(lowOfA, 20)
	for _, data := range all[:13] {
		blob.Put(b, data)
	}
	for _, n := range []int{11, 2, 0, 7} {
		must(t, blob.Release(b, "b/43/"+strconv.Itoa(n)))
	}
	wantPut(t, b, all[12], "b/43/12")
	wantPut(t, b, all[1], "b/43/1")
	for i, n := range []int{0, 2, 7, 11, 13} {
		wantPut(t, b, all[13+i], "b/43/"+strconv.Itoa(n))
		wantContent(t, b, "b/43/"+strconv.Itoa(n), all[13+i], 1)
	}
	wantPut(t, b, all[0], "b/43/14")
	wantContent(t, b, "b/43/12", all[12], 2)
	wantContent(t, b, "b/43/1", all[1], 2)
	wantPut(t, b, alike(lowOfA+1, 1)[0], "b/44/0")
}

// sameSum answers a content with the very same sum: the sum's divisor, laid onto five bytes, doesn't change it.
func sameSum(s string, at int) string {
	out := []byte(s)
	for i, divisor := 0, uint64(0xedb88320<<1|1); divisor > 0; i, divisor = i+1, divisor>>8 {
		out[at+i] ^= byte(divisor)
	}
	return string(out)
}

// 8.2: contents are told apart by their bytes, be their sums alike in all bits.
func TestSameSums(t *testing.T) {
	b := batch(t)
	one := "a content of some bytes"
	all := []string{one, sameSum(one, 0), sameSum(one, 9), sameSum(sameSum(one, 3), 4), sameSum(one, len(one)-5)}
	for n, data := range all {
		if crc32.ChecksumIEEE([]byte(data)) != crc32.ChecksumIEEE([]byte(one)) {
			t.Fatalf("%q has another sum", data)
		}
		wantPut(t, b, data, groupOf(one)+strconv.Itoa(n))
	}
	for n, data := range all {
		wantPut(t, b, data, groupOf(one)+strconv.Itoa(n))
		wantContent(t, b, groupOf(one)+strconv.Itoa(n), data, 2)
	}
}

// someContents are bytes of all kinds: none, long ones, such as look like numbers and texts, and some that differ little.
func someContents() []string {
	out := []string{"", "\x00", "\x00\x00", "\x01", "\x80", "\x80\x01", "\xff\xff", "\x02\x01a", "\x01\x00", "a", "A", "a ", " a", "b/43/0", "\n", "\xc3\xa4", "\xc3"}
	for _, n := range []int{127, 128, 300, api.MaxData, api.MaxData + 1, 70000} {
		out = append(out, strings.Repeat("x", n), strings.Repeat("x", n-1)+"y", strings.Repeat("\x00", n))
	}
	return out
}

// 8.2, 8.3, 8.6: every content is got as it was put, such among them as look like this layer's own values.
func TestContents(t *testing.T) {
	b := batch(t)
	m := model{}
	for _, data := range someContents() {
		key := m.put(data)
		wantPut(t, b, data, key)
		value, _ := b.Get(key)
		wantPut(t, b, value, m.put(value))
		wantPut(t, b, value+data, m.put(value+data))
	}
	wantKept(t, b, m)
}

// 8.3: held as often as it was put, many times too.
func TestHeldOften(t *testing.T) {
	const often = 300
	b := batch(t)
	blob.Put(b, "b")
	for n := range often {
		wantPut(t, b, "a", "b/43/0")
		wantContent(t, b, "b/43/0", "a", n+1)
	}
	for n := often - 1; n > 0; n-- {
		must(t, blob.Release(b, "b/43/0"))
		wantContent(t, b, "b/43/0", "a", n)
	}
	must(t, blob.Release(b, "b/43/0"))
	wantNone(t, b, "b/43/0")
	wantContent(t, b, groupOf("b")+"0", "b", 1)
}

// 8.3, 8.4: keys of no content: such as are written in another form, and another layer's with a value like that of a content.
func TestNoContent(t *testing.T) {
	wrong := []string{"", "b", "b/", "b/43", "b/43/", "b/43/1", "b/43/00", "b/43/-0", "b/43/+0", "b/43/0/", "b/43/0 ", " b/43/0", "/b/43/0", "b//43/0", "b/4/30", "b/44/0", "B/43/0", "43/0", "a", "b/43/0\x00", "x"}
	b := batch(t)
	for _, key := range append(wrong, "b/43/0") {
		wantNone(t, b, key)
	}
	blob.Put(b, "a")
	value, _ := b.Get("b/43/0")
	for _, key := range []string{"x", "b", "", "43/0", "B/43/0"} {
		b.Put(key, value)
	}
	for _, key := range wrong {
		wantNone(t, b, key)
	}
	wantContent(t, b, "b/43/0", "a", 1)
	wantKeys(t, b, "", "", "43/0", "B/43/0", "b", "b/43/0", "x")
}

// 8.4: a content is there till the last time, and then again when it is put again.
func TestRelease(t *testing.T) {
	b := batch(t)
	m := model{}
	keys := map[string]string{}
	for i, data := range someContents() {
		for range 1 + i%3 {
			keys[data] = blob.Put(b, data)
			m.put(data)
		}
	}
	for len(m) > 0 {
		for _, data := range someContents() {
			if e := blob.Release(b, keys[data]); e != m.release(keys[data]) {
				t.Fatalf("Release(%q) = %d", keys[data], e)
			}
			wantKept(t, b, m)
		}
	}
	wantKeys(t, b, "")
	for _, data := range someContents() {
		wantPut(t, b, data, m.put(data))
	}
	wantKept(t, b, m)
}

// 8.5: each content is held as often as it stands in the list, more or less than before; what doesn't stand there is gone.
func TestSweep(t *testing.T) {
	b := batch(t)
	m := model{}
	for i, data := range someContents() {
		for range 1 + i%3 {
			blob.Put(b, data)
			m.put(data)
		}
	}
	keys := slices.Sorted(maps.Keys(m))
	var held []string
	for i, key := range keys {
		held = append(held, slices.Repeat([]string{key}, i%4)...)
	}
	slices.Reverse(held)
	for _, list := range [][]string{held, held, held[:len(held)/2], append(held, "b/zz/0", "", "b/", "x"), held[:1], nil, held} {
		wanted := m.sweep(list)
		if n := blob.Sweep(b, list); n != wanted {
			t.Errorf("Sweep of %d = %d, want %d", len(list), n, wanted)
		}
		wantKept(t, b, m)
	}
	wantKeys(t, b, "")
}

// 8.5: the order of the list says nothing, keys of no content say nothing, and no content comes by it.
func TestSweepLists(t *testing.T) {
	for _, list := range [][]string{
		{"b/43/0", "b/43/1", "b/43/0"}, {"b/43/1", "b/43/0", "b/43/0"}, {"b/43/0", "x", "b/43/2", "b/43/0", "b/43/1", "", "b/", "b/43"}, {"b/44/0", "b/43/0", "b/44/0", "b/43/0", "b/43/1"},
	} {
		b := batch(t)
		one := alike(lowOfA, 1)[0]
		blob.Put(b, "a")
		blob.Put(b, one)
		gone := blob.Put(b, "gone")
		before := slices.Clone(list)
		if n := blob.Sweep(b, list); n != 1 {
			t.Errorf("Sweep(%q) = %d", list, n)
		}
		wantKept(t, b, model{"b/43/0": {2, "a"}, "b/43/1": {1, one}})
		wantNone(t, b, gone)
		if !slices.Equal(list, before) {
			t.Errorf("Sweep has changed its list to %q", list)
		}
	}
	b := batch(t)
	if n := blob.Sweep(b, []string{"b/43/0", "b/43/0"}); n != 0 {
		t.Errorf("Sweep of nothing = %d", n)
	}
	wantKeys(t, b, "")
}

// Rule 4: Sweep leaves the list as it is, spare room included.
func TestSweepLeavesSpareRoom(t *testing.T) {
	list := []string{"b/44/0", "b/43/0", "b/43/0", "spare", "room"}
	before := slices.Clone(list)
	b := batch(t)
	blob.Put(b, "a")
	blob.Sweep(b, list[:3])
	if !slices.Equal(list, before) {
		t.Errorf("Sweep has changed its list to %q", list)
	}
}

// Rule 1: of no batch nothing is promised but that the calls end.
func TestNilBatch(t *testing.T) {
	blob.Put(nil, "a")
	blob.Sweep(nil, []string{"b/43/0"})
	wantNone(t, nil, "b/43/0")
	wantNone(t, nil, "")
}
