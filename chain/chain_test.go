package chain_test

import (
	"maps"
	"math"
	"slices"
	"strconv"
	"strings"
	"testing"

	"tether/api"
	"tether/chain"
	"tether/delta"
	"tether/disk"
	"tether/table"
)

const dir = "sys"

// kept is a version as it should be kept.
type kept struct {
	data string
	near int // 0: it is kept whole
}

// model is what should be kept, by number.
type model struct {
	last     int // the last number that was given
	versions map[int]kept
}

func newModel() *model {
	return &model{versions: map[int]kept{}}
}

func (m *model) clone() *model {
	return &model{m.last, maps.Clone(m.versions)}
}

func (m *model) depth(id int) int {
	v, ok := m.versions[id]
	if !ok {
		return -1
	}
	// Of a whole one near is 0, of which there is no version.
	return 1 + m.depth(v.near)
}

func (m *model) tell(data string, near int) kept {
	base, ok := m.versions[near]
	if ok && m.depth(near) < api.MaxChain && len(data) <= api.MaxData && len(delta.Encode(base.data, data)) < len(data) {
		return kept{data, near}
	}
	return kept{data: data}
}

func (m *model) add(data string, near int) int {
	m.last++
	m.versions[m.last] = m.tell(data, near)
	return m.last
}

func (m *model) drop(id int) api.Errno {
	gone, ok := m.versions[id]
	if !ok {
		return api.ErrNone
	}
	for other, v := range m.versions {
		if v.near == id {
			m.versions[other] = m.tell(v.data, gone.near)
		}
	}
	delete(m.versions, id)
	return api.OK
}

func (m *model) bytes() int {
	n := 0
	for _, v := range m.versions {
		if v.near == 0 {
			n += len(v.data)
		} else {
			n += len(delta.Encode(m.versions[v.near].data, v.data))
		}
	}
	return n
}

func must(t *testing.T, errors ...api.Errno) {
	t.Helper()
	for i, e := range errors {
		if e != api.OK {
			t.Fatalf("call %d = %d", i, e)
		}
	}
}

func open(t *testing.T, d *disk.Disk) *table.Table {
	t.Helper()
	x, e := table.Open(d, dir)
	must(t, e)
	return x
}

// batch is one of a new table.
func batch(t *testing.T) *table.Batch {
	t.Helper()
	return open(t, disk.New()).Begin()
}

func wantAdd(t *testing.T, b *table.Batch, data string, near, id int) {
	t.Helper()
	if got := chain.Add(b, data, near); got != id {
		t.Fatalf("Add(%.40q, %d) = %d, want %d", data, near, got, id)
	}
}

func wantDrop(t *testing.T, b *table.Batch, id int, wanted api.Errno) {
	t.Helper()
	if got := chain.Drop(b, id); got != wanted {
		t.Fatalf("Drop(%d) = %d, want %d", id, got, wanted)
	}
}

func wantContent(t *testing.T, b *table.Batch, id int, data string) {
	t.Helper()
	if got, e := chain.Get(b, id); got != data || e != api.OK {
		t.Fatalf("Get(%d) = %.40q, %d; want %.40q", id, got, e, data)
	}
}

func wantDepth(t *testing.T, b *table.Batch, id, depth int) {
	t.Helper()
	if got := chain.Depth(b, id); got != depth {
		t.Fatalf("Depth(%d) = %d, want %d", id, got, depth)
	}
}

func wantDepths(t *testing.T, b *table.Batch, depths ...int) {
	t.Helper()
	for i, depth := range depths {
		wantDepth(t, b, i+1, depth)
	}
}

func wantNone(t *testing.T, b *table.Batch, id int) {
	t.Helper()
	if data, e := chain.Get(b, id); data != "" || e != api.ErrNone {
		t.Fatalf("Get(%d) = %.40q, %d; want none", id, data, e)
	}
	wantDepth(t, b, id, -1)
	wantDrop(t, b, id, api.ErrNone)
}

func wantVersions(t *testing.T, b *table.Batch, ids ...int) {
	t.Helper()
	if got := chain.Versions(b); !slices.Equal(got, ids) {
		t.Fatalf("Versions = %v, want %v", got, ids)
	}
}

func wantBytes(t *testing.T, b *table.Batch, n int) {
	t.Helper()
	if got := chain.Bytes(b); got != n {
		t.Fatalf("Bytes = %d, want %d", got, n)
	}
}

// wantKept holds all that is kept against the model.
func wantKept(t *testing.T, b *table.Batch, m *model) {
	t.Helper()
	wantVersions(t, b, slices.Sorted(maps.Keys(m.versions))...)
	wantBytes(t, b, m.bytes())
	for id, v := range m.versions {
		wantContent(t, b, id, v.data)
		wantDepth(t, b, id, m.depth(id))
		if m.depth(id) > api.MaxChain {
			t.Fatalf("%d is told by %d steps", id, m.depth(id))
		}
	}
}

// page is a text of some length, much alike for all n.
func page(n int) string {
	return strings.Repeat("a line of the text\n", 20) + "line " + strconv.Itoa(n)
}

// addPages adds so many pages, each near the one ahead.
func addPages(t *testing.T, b *table.Batch, count int) {
	t.Helper()
	for i := range count {
		wantAdd(t, b, page(i+1), i, i+1)
	}
}

// The chapter's example.
func TestExamples(t *testing.T) {
	b := batch(t)
	addPages(t, b, 7)
	wantDepths(t, b, 0, 1, 2, 3, 4, 0, 1)
	for _, id := range []int{3, 1, 6} {
		wantDrop(t, b, id, api.OK)
	}
	wantVersions(t, b, 2, 4, 5, 7)
	for _, id := range []int{2, 4, 5, 7} {
		wantContent(t, b, id, page(id))
	}
	wantDepths(t, b, -1, 0, -1, 1, 2, -1, 0)
}

// 10.1: numbers rise from 1 on by one, and none is given again, whatever was dropped, committed or opened again.
func TestNumbers(t *testing.T) {
	d := disk.New()
	x := open(t, d)
	b := x.Begin()
	wantAdd(t, b, "a", 0, 1)
	wantAdd(t, b, "a", 0, 2)
	wantDrop(t, b, 2, api.OK)
	wantAdd(t, b, "", 99, 3)
	wantDrop(t, b, 1, api.OK)
	wantDrop(t, b, 3, api.OK)
	wantVersions(t, b)
	wantAdd(t, b, "b", 3, 4)
	must(t, b.Commit())
	wantAdd(t, b, "c", 4, 5)
	wantDrop(t, b, 4, api.OK)
	wantDrop(t, b, 5, api.OK)
	must(t, b.Commit())
	b = open(t, d).Begin()
	wantVersions(t, b)
	wantAdd(t, b, "d", 0, 6)
	wantVersions(t, b, 6)
}

// 10.1: a number that is given in a batch that isn't committed wasn't given.
func TestNumbersOfBatchesGivenUp(t *testing.T) {
	x := open(t, disk.New())
	left := x.Begin()
	addPages(t, left, 3)
	b := x.Begin()
	wantAdd(t, b, "a", 0, 1)
	must(t, b.Commit())
	wantAdd(t, x.Begin(), "b", 0, 2)
}

// 10.1: near a number of which there is no version, whatever number it is, a content is kept whole.
func TestNearNone(t *testing.T) {
	b := batch(t)
	addPages(t, b, 2)
	wantDrop(t, b, 2, api.OK)
	nears := []int{0, -1, 2, 3, 99, -99, api.MaxNumber, math.MinInt, math.MaxInt, math.MinInt + 1, 1 << 32}
	for i, near := range nears {
		// Of the third number there will be a version, which isn't there ahead of the Add.
		if near == 3 {
			near = 3 + i
		}
		wantAdd(t, b, page(1), near, 3+i)
		wantDepth(t, b, 3+i, 0)
	}
	wantBytes(t, b, len(page(1))*(1+len(nears)))
}

// 10.1: a content is told by a version that is told by fewer than MaxChain steps, and by no other one, also with others told by the same one.
func TestMaxChain(t *testing.T) {
	b := batch(t)
	addPages(t, b, api.MaxChain+1)
	id := api.MaxChain + 2
	for near := range api.MaxChain + 1 {
		for range 2 {
			wantAdd(t, b, page(id), near+1, id)
			wanted := near + 1
			if near == api.MaxChain {
				wanted = 0
			}
			wantDepth(t, b, id, wanted)
			wantContent(t, b, id, page(id))
			id++
		}
	}
}

// 10.1: a content of MaxData bytes is told by another one, one of a byte more is kept whole, however much alike they are.
func TestMaxData(t *testing.T) {
	for _, extra := range []int{-1, 0, 1, 2, api.MaxData} {
		b := batch(t)
		data := strings.Repeat("x", api.MaxData+extra)
		wantAdd(t, b, data[1:], 0, 1)
		wantAdd(t, b, data, 1, 2)
		wantAdd(t, b, data, 2, 3)
		wantBytes(t, b, len(data)-1+stored(data[1:], data)+stored(data, data))
		depths := []int{0, 1, 2}
		if extra > 0 {
			depths = []int{0, 0, 0}
		}
		wantDepths(t, b, depths...)
		for id := range 2 {
			wantContent(t, b, id+2, data)
		}
	}
}

// stored answers how many bytes are kept of a content near another one that is told by few steps.
func stored(base, data string) int {
	if len(data) > api.MaxData {
		return len(data)
	}
	return min(len(data), len(delta.Encode(base, data)))
}

// 10.1: a content may be told by one of more than MaxData bytes.
func TestNearGreater(t *testing.T) {
	b := batch(t)
	base := strings.Repeat("some line\n", api.MaxData)
	data := base[7 : 7+api.MaxData]
	wantAdd(t, b, base, 0, 1)
	wantAdd(t, b, data, 1, 2)
	wantDepths(t, b, 0, 1)
	wantContent(t, b, 1, base)
	wantContent(t, b, 2, data)
	wantBytes(t, b, len(base)+len(delta.Encode(base, data)))
}

// 10.1: a content is told by another one if the delta has fewer bytes, be it only one; not if it has as many or more.
func TestFewerBytes(t *testing.T) {
	base := "0123456789abcdefghijklmnopqrstuvwxyz"
	seen := map[int]bool{}
	for own := range 12 {
		for common := range len(base) + 1 {
			b := batch(t)
			data := strings.Repeat("#", own) + base[:common]
			wantAdd(t, b, base, 0, 1)
			wantAdd(t, b, data, 1, 2)
			d := delta.Encode(base, data)
			more := len(d) - len(data)
			seen[more] = true
			if more < 0 {
				wantDepths(t, b, 0, 1)
				wantBytes(t, b, len(base)+len(d))
			} else {
				wantDepths(t, b, 0, 0)
				wantBytes(t, b, len(base)+len(data))
			}
			wantContent(t, b, 2, data)
		}
	}
	for _, more := range []int{-1, 0, 1} {
		if !seen[more] {
			t.Errorf("no delta with %d bytes more than its text", more)
		}
	}
}

// 10.1, 10.2: contents of all kinds of bytes, and of none, are kept as they are.
func TestContents(t *testing.T) {
	b := batch(t)
	m := newModel()
	near := 0
	for _, data := range []string{"", "", "\x00", "v/1", "\xff\xfe\n", strings.Repeat("\x00", 300), strings.Repeat("\x00", 301), strings.Repeat("\x80", 20000), "", "next"} {
		wantAdd(t, b, data, near, m.add(data, near))
		near = m.last
	}
	wantKept(t, b, m)
}

// 10.2, 10.3, rule 1: numbers of which there is no version.
func TestNone(t *testing.T) {
	b := batch(t)
	numbers := []int{0, -1, 1, 4, 99, 1 << 32, 1<<32 + 1, api.MaxNumber, math.MinInt, math.MaxInt}
	for _, id := range numbers {
		wantNone(t, b, id)
	}
	wantVersions(t, b)
	wantBytes(t, b, 0)
	addPages(t, b, 3)
	wantDrop(t, b, 1, api.OK)
	for _, id := range numbers {
		wantNone(t, b, id)
	}
	wantVersions(t, b, 2, 3)
}

// 10.2: the numbers rise as numbers, not as texts.
func TestVersionsRise(t *testing.T) {
	b := batch(t)
	var wanted []int
	for i := range 1100 {
		wantAdd(t, b, "", 0, i+1)
		wanted = append(wanted, i+1)
	}
	wantVersions(t, b, wanted...)
	wantDrop(t, b, 10, api.OK)
	wantDrop(t, b, 1000, api.OK)
	wantVersions(t, b, slices.Concat(wanted[:9], wanted[10:999], wanted[1000:])...)
}

// 10.3: those that were told by one that goes are told near the one by which it was told, all else stays.
func TestDropInTheMiddle(t *testing.T) {
	b := batch(t)
	addPages(t, b, 5)
	wantAdd(t, b, page(6), 2, 6) // like 3 told by 2
	wantAdd(t, b, page(7), 1, 7) // like 2 told by 1
	wantDepths(t, b, 0, 1, 2, 3, 4, 2, 1)
	wantDrop(t, b, 2, api.OK)
	wantDepths(t, b, 0, -1, 1, 2, 3, 1, 1)
	told := 0
	for from, ids := range map[int][]int{1: {3, 6, 7}, 3: {4}, 4: {5}} {
		for _, id := range ids {
			wantContent(t, b, id, page(id))
			told += len(delta.Encode(page(from), page(id)))
		}
	}
	wantBytes(t, b, len(page(1))+told)
}

// 10.3: those that were told by a whole one that goes are kept whole, and those behind them are told by them as before.
func TestDropWhole(t *testing.T) {
	b := batch(t)
	addPages(t, b, 5)
	wantAdd(t, b, page(6), 1, 6)
	wantDrop(t, b, 1, api.OK)
	wantDepths(t, b, -1, 0, 1, 2, 3, 0)
	told := 0
	for id := 3; id <= 5; id++ {
		told += len(delta.Encode(page(id-1), page(id)))
	}
	wantBytes(t, b, len(page(2))+len(page(6))+told)
	for id := 2; id <= 6; id++ {
		wantContent(t, b, id, page(id))
	}
}

// 10.3: one that nothing was told by goes alone.
func TestDropLast(t *testing.T) {
	b := batch(t)
	addPages(t, b, 3)
	wantAdd(t, b, page(4), 2, 4)
	wantDrop(t, b, 3, api.OK)
	wantDepths(t, b, 0, 1, -1, 2)
	wantDrop(t, b, 4, api.OK)
	wantDrop(t, b, 2, api.OK)
	wantVersions(t, b, 1)
	wantBytes(t, b, len(page(1)))
	wantDrop(t, b, 1, api.OK)
	wantVersions(t, b)
	wantBytes(t, b, 0)
}

// 10.3: what isn't alike enough to the version by which the one that goes was told is kept whole.
func TestDropWithoutLikeness(t *testing.T) {
	b := batch(t)
	left, right := strings.Repeat("left", 10), strings.Repeat("RIGHT", 10)
	wantAdd(t, b, left, 0, 1)
	wantAdd(t, b, left+right, 1, 2)
	wantAdd(t, b, right, 2, 3)
	wantAdd(t, b, right+"!", 3, 4)
	wantDepths(t, b, 0, 1, 2, 3)
	wantDrop(t, b, 2, api.OK)
	wantDepths(t, b, 0, -1, 0, 1)
	wantContent(t, b, 3, right)
	wantContent(t, b, 4, right+"!")
	wantBytes(t, b, len(left)+len(right)+len(delta.Encode(right, right+"!")))
}

// 10.3: behind a Drop there is room for more steps again.
func TestRoomBehindDrop(t *testing.T) {
	b := batch(t)
	addPages(t, b, api.MaxChain+1)
	wantDrop(t, b, 3, api.OK)
	wantDepth(t, b, api.MaxChain+1, api.MaxChain-1)
	wantAdd(t, b, page(6), api.MaxChain+1, 6)
	wantDepth(t, b, 6, api.MaxChain)
	wantAdd(t, b, page(7), 6, 7)
	wantDepth(t, b, 7, 0)
}

// 10.4: a version that is kept whole takes its content's bytes, another one its delta's, and one that is gone none.
func TestBytes(t *testing.T) {
	b := batch(t)
	wantBytes(t, b, 0)
	wantAdd(t, b, "", 0, 1)
	wantBytes(t, b, 0)
	wantAdd(t, b, page(1), 0, 2)
	wantBytes(t, b, len(page(1)))
	wantAdd(t, b, page(1), 2, 3)
	short := len(delta.Encode(page(1), page(1)))
	wantBytes(t, b, len(page(1))+short)
	wantAdd(t, b, "unlike", 3, 4)
	wantBytes(t, b, len(page(1))+short+len("unlike"))
	wantDrop(t, b, 2, api.OK)
	wantBytes(t, b, len(page(1))+len("unlike"))
}
