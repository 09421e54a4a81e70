package frame_test

import (
	"encoding/binary"
	"hash/crc32"
	"math"
	"math/rand"
	"slices"
	"strings"
	"testing"

	"tether/api"
	"tether/frame"
	"tether/wire"
)

// texts are some of each length about the places at which a length gets a byte more, of all kinds of bytes.
func texts() []string {
	list := []string{"", "a", "b", "\x00", "\xff", "123456789", strings.Repeat("\x00", 40), strings.Repeat("\xff", 40)}
	source := rand.New(rand.NewSource(2))
	for _, size := range []int{1, 2, 3, 4, 5, 7, 8, 9, 126, 127, 128, 129, 300, 16383, 16384} {
		b := make([]byte, size)
		source.Read(b)
		list = append(list, string(b))
	}
	return list
}

func packed(list []string) string {
	var out strings.Builder
	for _, s := range list {
		out.WriteString(frame.Pack(s))
	}
	return out.String()
}

// bitwise is the sum as its promise tells it, bit by bit.
func bitwise(s string) uint32 {
	c := uint32(math.MaxUint32)
	for _, b := range []byte(s) {
		for at := range 8 {
			gone, bit := c%2, uint32(b>>at)%2
			c /= 2
			if gone != bit {
				c ^= 0xedb88320
			}
		}
	}
	return math.MaxUint32 - c
}

func wantRead(t *testing.T, s string, at int, text string, next int, e api.Errno) {
	t.Helper()
	if x, n, got := frame.Read(s, at); x != text || n != next || got != e {
		t.Errorf("Read(%x, %d) = %x, %d, %d; want %x, %d, %d", s, at, x, n, got, text, next, e)
	}
}

func wantScan(t *testing.T, s string, list []string, good int, e api.Errno) {
	t.Helper()
	if x, n, got := frame.Scan(s); !slices.Equal(x, list) || n != good || got != e {
		t.Errorf("Scan of %d bytes = %q, %d, %d; want %q, %d, %d", len(s), x, n, got, list, good, e)
	}
}

// 2.1
func TestSum(t *testing.T) {
	examples := map[string]uint32{"": 0, "a": 0xe8b7be43, "123456789": 0xcbf43926, "\x00": 0xd202ef8d, "\x00\x00\x00\x00": 0x2144df1c, "\xff\xff\xff\xff": 0xffffffff}
	for s, want := range examples {
		if c := frame.Sum(s); c != want {
			t.Errorf("Sum(%x) = %08x; want %08x", s, c, want)
		}
	}
	for b := range 256 {
		one := string([]byte{byte(b)})
		if c, want := frame.Sum(one), bitwise(one); c != want {
			t.Errorf("Sum(%x) = %08x; want %08x", one, c, want)
		}
	}
	for _, s := range texts() {
		if c, want := frame.Sum(s), bitwise(s); c != want || c != crc32.ChecksumIEEE([]byte(s)) {
			t.Errorf("Sum of %d bytes = %08x; want %08x", len(s), c, want)
		}
	}
}

// 2.2
func TestPack(t *testing.T) {
	examples := map[string]string{
		"":          "\x00\x00\x00\x00\x00",
		"a":         "\x01a\x43\xbe\xb7\xe8",
		"123456789": "\x09123456789\x26\x39\xf4\xcb",
	}
	for s, want := range examples {
		if p := frame.Pack(s); p != want {
			t.Errorf("Pack(%q) = %x; want %x", s, p, want)
		}
	}
	for _, s := range texts() {
		want := wire.Text(s) + string(binary.LittleEndian.AppendUint32(nil, bitwise(s)))
		if p := frame.Pack(s); p != want {
			t.Errorf("Pack of %d bytes = %x; want %x", len(s), p, want)
		}
	}
}

// 2.3
func TestReadTellsTextAndPlaceBehind(t *testing.T) {
	for _, s := range texts() {
		p := frame.Pack(s)
		wantRead(t, p, 0, s, len(p), api.OK)
		wantRead(t, "zz"+p, 2, s, 2+len(p), api.OK)
		wantRead(t, p+"\xff\xff", 0, s, len(p), api.OK)
		wantRead(t, p+p, len(p), s, 2*len(p), api.OK)
	}
}

// 2.3
func TestReadRefusesPlaces(t *testing.T) {
	for _, s := range []string{"", "a", frame.Pack("a"), "\x80\x00", frame.Turn(frame.Pack("a"), 9)} {
		for _, at := range []int{-1, -2, len(s) + 1, len(s) + 2, math.MinInt, math.MaxInt, math.MinInt32, math.MaxInt32, -len(s) - 1} {
			wantRead(t, s, at, "", 0, api.ErrInput)
		}
		wantRead(t, s, len(s), "", 0, api.ErrShort)
	}
}

// 2.3
func TestReadRefusesBytes(t *testing.T) {
	p := frame.Pack("a")
	examples := map[string]api.Errno{
		"":                                     api.ErrShort,
		p[:1]:                                  api.ErrShort,
		p[:2]:                                  api.ErrShort,
		p[:5]:                                  api.ErrShort,
		"\x00\x00\x00\x00":                     api.ErrShort,
		"\x80":                                 api.ErrShort,
		"\x7fabc":                              api.ErrShort,
		"\x80\x00":                             api.ErrForm,
		"\x81\x00" + p[1:]:                     api.ErrForm,
		"\x00\x01\x00\x00\x00":                 api.ErrSum,
		"\x00\x00\x00\x00\x01":                 api.ErrSum,
		"\x01a\xe8\xb7\xbe\x43":                api.ErrSum,
		p[:2] + "\x43\xbe\xb7\xe9":             api.ErrSum,
		strings.Repeat("\xff", 9) + "\x02" + p: api.ErrForm,
		strings.Repeat("\xff", 9) + "\x01" + p: api.ErrForm,
		strings.Repeat("\xff", 8) + "\x7f" + p: api.ErrShort,
		strings.Repeat("\xff", 9):              api.ErrShort,
	}
	for s, e := range examples {
		wantRead(t, s, 0, "", 0, e)
		wantRead(t, p+s, len(p), "", 0, e)
	}
}

// 2.3: with too few bytes behind the text, no sum is looked at, not even one that couldn't hold.
func TestReadTellsShortAheadOfSum(t *testing.T) {
	wantRead(t, "\x01a\x00\x00\x00", 0, "", 0, api.ErrShort)
	wantRead(t, "\x01a\x00\x00\x00\x00", 0, "", 0, api.ErrSum)
}

// 2.4
func TestScanTellsWholeFrames(t *testing.T) {
	a, bc := frame.Pack("a"), frame.Pack("bc")
	wantScan(t, "", nil, 0, api.OK)
	wantScan(t, a, []string{"a"}, 6, api.OK)
	wantScan(t, a+bc, []string{"a", "bc"}, 13, api.OK)
	wantScan(t, a+bc+a[:3], []string{"a", "bc"}, 13, api.ErrShort)
	wantScan(t, a+"\x80\x00"+bc, []string{"a"}, 6, api.ErrForm)
	wantScan(t, a+frame.Turn(bc, 8)+a, []string{"a"}, 6, api.ErrSum)
	wantScan(t, "\x80\x00"+a, nil, 0, api.ErrForm)
	wantScan(t, frame.Turn(a, -1), nil, 0, api.ErrSum)
	wantScan(t, "\x00", nil, 0, api.ErrShort)
	wantScan(t, frame.Pack("")+frame.Pack(""), []string{"", ""}, 10, api.OK)
}

// 2.4: what Scan hands out is new memory, spare room included.
func TestScanHandsOutNewLists(t *testing.T) {
	s := packed([]string{"a", "b", "c"})
	first, _, _ := frame.Scan(s)
	full := append(first, "more")
	for i := range full {
		full[i] = "changed"
	}
	wantScan(t, s, []string{"a", "b", "c"}, 18, api.OK)
}

// 2.5
func TestTurn(t *testing.T) {
	examples := []struct {
		s    string
		bit  int
		want string
	}{
		{"a", 1, "c"}, {"a", -7, "c"}, {"a", 9, "c"}, {"a", 0, "`"}, {"a", 7, "\xe1"}, {"a", -1, "\xe1"}, {"a", 8, "`"}, {"a", -8, "`"},
		{"ab", 8, "ac"}, {"ab", 15, "a\xe2"}, {"ab", 16, "`b"}, {"ab", -1, "a\xe2"}, {"ab", -16, "`b"}, {"ab", -17, "a\xe2"},
		{"\x00\x00\x00", math.MaxInt, "\x80\x00\x00"}, {"\x00\x00\x00", math.MinInt, "\x00\x00\x01"},
		{"\x00", math.MaxInt, "\x80"}, {"\x00", math.MinInt, "\x01"},
		{"", 0, ""}, {"", 3, ""}, {"", -3, ""}, {"", math.MaxInt, ""}, {"", math.MinInt, ""},
	}
	for _, x := range examples {
		if got := frame.Turn(x.s, x.bit); got != x.want {
			t.Errorf("Turn(%x, %d) = %x; want %x", x.s, x.bit, got, x.want)
		}
	}
}

// 2.5: any bit, told in each way, is the one that is turned, and no other one.
func TestTurnTurnsOneBit(t *testing.T) {
	const s = "\x00\x5a\xff"
	const bits = 8 * len(s)
	for bit := range bits {
		want := []byte(s)
		want[bit/8] ^= 1 << (bit % 8)
		for _, times := range []int{-1000, -2, -1, 0, 1, 2, 1000} {
			if got := frame.Turn(s, bit+times*bits); got != string(want) {
				t.Errorf("Turn(%x, %d) = %x; want %x", s, bit+times*bits, got, want)
			}
		}
	}
}

// 2.6
func TestPackedTextsAreScannedAsThemselves(t *testing.T) {
	list := texts()
	s := packed(list)
	wantScan(t, s, list, len(s), api.OK)
}

// 2.6
func TestCutFramesAreShort(t *testing.T) {
	list := []string{"", "abc", strings.Repeat("long", 50), "", "x"}
	s := packed(list)
	ends := map[int]int{0: 0}
	for i := range list {
		ends[len(packed(list[:i+1]))] = i + 1
	}
	whole, good := 0, 0
	for cut := range len(s) + 1 {
		e := api.ErrShort
		if n, at := ends[cut]; at {
			whole, good, e = n, cut, api.OK
		}
		wantScan(t, s[:cut], list[:whole], good, e)
	}
}

// 2.6
func TestTurnedBitIsFound(t *testing.T) {
	for _, s := range []string{"", "a", "abc", strings.Repeat("long", 50), strings.Repeat("\x00", 9)} {
		p := frame.Pack(s)
		length := len(wire.Text(s)) - len(s)
		for bit := 8 * length; bit < 8*len(p); bit++ {
			wantRead(t, frame.Turn(p, bit), 0, "", 0, api.ErrSum)
			wantScan(t, frame.Pack("ahead")+frame.Turn(p, bit), []string{"ahead"}, 10, api.ErrSum)
		}
	}
}
