package delta_test

import (
	"encoding/binary"
	"math"
	"math/rand"
	"strings"
	"testing"

	"tether/api"
	"tether/delta"
)

const hello = "hello world"

// num answers a number's bytes, reckoned by the library.
func num(n uint64) string {
	return string(binary.AppendUvarint(nil, n))
}

// put answers a piece that is put in.
func put(s string) string {
	return num(2*uint64(len(s))) + s
}

// from answers a piece of n bytes that are copied from the place i on.
func from(n, i uint64) string {
	return num(2*n+1) + num(i)
}

// told holds what Apply answers against a text.
func told(t *testing.T, base, d, wanted string) {
	t.Helper()
	if s, e := delta.Apply(base, d); s != wanted || e != api.OK {
		t.Errorf("Apply(%.40q, %.40q) = %.40q, %d, want %.40q", base, d, s, e, wanted)
	}
}

// refused holds what Apply answers against an error.
func refused(t *testing.T, base, d string, wanted api.Errno) {
	t.Helper()
	if s, e := delta.Apply(base, d); s != "" || e != wanted {
		t.Errorf("Apply(%.40q, %.40q) = %.40q, %d, want %d", base, d, s, e, wanted)
	}
}

// 9.2: the chapter's examples.
func TestExamples(t *testing.T) {
	told(t, hello, "\x08\x0b\x06\x06\x68\x65\x79", "worldhey")
	told(t, hello, "\x0b\x17\x00", hello)
	refused(t, hello, "\x02\x04\x61", api.ErrShort)
	refused(t, hello, "\x02\x06abc", api.ErrForm)
	refused(t, hello, "\x02\x05\x0a", api.ErrForm)
}

// 9.2: pieces of both kinds, alone and in any row, places at both ends of the base.
func TestApplyTells(t *testing.T) {
	told(t, hello, num(0), "")
	told(t, "", num(0), "")
	told(t, "", num(3)+put("abc"), "abc")
	told(t, hello, num(3)+put("a")+put("b")+put("c"), "abc")
	told(t, hello, num(1)+from(1, 0), "h")
	told(t, hello, num(1)+from(1, 10), "d")
	told(t, hello, num(22)+from(11, 0)+from(11, 0), hello+hello)
	told(t, hello, num(9)+from(5, 6)+put(", ")+from(2, 0), "world, he")
	told(t, "a\x00\xff\x80", num(6)+from(4, 0)+put("\x00\xfe"), "a\x00\xff\x80\x00\xfe")
}

// 9.2: a text has at most MaxData bytes, the base and the delta may have more.
func TestApplyGreatest(t *testing.T) {
	most := strings.Repeat("x", api.MaxData)
	told(t, "", num(api.MaxData)+put(most), most)
	told(t, most, num(api.MaxData)+from(api.MaxData, 0), most)
	told(t, most+"yz", num(3)+from(3, api.MaxData-1), "xyz")
	told(t, "x", num(api.MaxData)+strings.Repeat(from(1, 0), api.MaxData), most)
	refused(t, most+"x", num(api.MaxData+1)+from(api.MaxData+1, 0), api.ErrLimit)
	refused(t, most, num(math.MaxInt64), api.ErrLimit)
}

// 9.2: a number that chapter 1's reader refuses, wherever it stands.
func TestApplyNumbers(t *testing.T) {
	wrong := map[string]api.Errno{
		"":                                 api.ErrShort,
		"\x80":                             api.ErrShort,
		"\x81\x00":                         api.ErrForm, // not the shortest
		strings.Repeat("\xff", 9) + "\x02": api.ErrForm, // above 64 bits
		num(1 << 63):                       api.ErrForm, // above an int
		strings.Repeat("\x80", 9):          api.ErrShort,
		num(math.MaxUint64) + strings.Repeat("x", 9): api.ErrForm,
	}
	for s, e := range wrong {
		refused(t, hello, s, e)
		refused(t, hello, num(2)+num(5)+s, e)
		refused(t, hello, num(2)+put("a")+num(3)+s, e)
		if s != "" {
			refused(t, hello, num(2)+s, e)
			refused(t, hello, num(2)+put("ab")+s, e)
			refused(t, hello, num(2)+put("a")+s, e)
		}
	}
}

// 9.2: what is wrong of a piece.
func TestApplyPieces(t *testing.T) {
	refused(t, hello, num(2)+num(0), api.ErrForm)
	refused(t, hello, num(2)+num(1), api.ErrForm) // ahead of the place, which is missing
	refused(t, hello, num(2)+put("ab")+num(0), api.ErrForm)
	refused(t, hello, num(2)+put("ab")+put("c"), api.ErrForm)
	refused(t, hello, num(2)+put("ab")+num(2), api.ErrForm) // ahead of the bytes, which are missing
	refused(t, hello, num(2)+put("ab")+num(3), api.ErrForm)
	refused(t, hello, num(0)+put("a"), api.ErrForm)
	refused(t, hello, num(0)+from(1, 0), api.ErrForm)
	refused(t, hello, num(2)+from(3, 0), api.ErrForm)
	refused(t, hello, num(2)+num(math.MaxInt64), api.ErrForm)
	refused(t, hello, num(2)+num(math.MaxInt64-1), api.ErrForm)
	refused(t, hello, num(2)+num(4), api.ErrShort)
	refused(t, hello, num(2)+num(5), api.ErrShort)
	refused(t, hello, num(2)+put("a")+num(2), api.ErrShort)
}

// 9.2: a copied piece lies in the base as a whole.
func TestApplyPlaces(t *testing.T) {
	told(t, hello, num(2)+from(2, 9), "ld")
	refused(t, hello, num(2)+from(2, 10), api.ErrForm)
	refused(t, hello, num(2)+from(2, 11), api.ErrForm)
	refused(t, hello, num(2)+from(2, 12), api.ErrForm)
	refused(t, hello, num(2)+from(2, math.MaxInt64-1), api.ErrForm)
	refused(t, hello, num(2)+from(2, math.MaxInt64), api.ErrForm)
	refused(t, hello, num(12)+from(12, 0), api.ErrForm)
	refused(t, "", num(1)+from(1, 0), api.ErrForm)
}

// 9.2: fewer bytes than were said, at the end.
func TestApplyFewer(t *testing.T) {
	refused(t, hello, num(1), api.ErrShort)
	refused(t, hello, num(3)+put("ab"), api.ErrShort)
	refused(t, hello, num(12)+from(11, 0), api.ErrShort)
	refused(t, hello, num(api.MaxData), api.ErrShort)
}

// 9.2: the first thing that is wrong, not the worst one, is the answer.
func TestApplyFirst(t *testing.T) {
	refused(t, hello, num(api.MaxData+1)+num(0), api.ErrLimit)
	refused(t, hello, num(9)+from(2, 10)+num(2), api.ErrForm)
	refused(t, hello, num(9)+put("a")+num(40)+"b", api.ErrForm)
	refused(t, hello, num(9)+put("a")+num(16)+"b\x00", api.ErrShort)
	refused(t, hello, num(9)+num(0)+"\x80", api.ErrForm)
}

// model is Apply, reckoned by the library and the chapter's words.
func model(base, d string) (string, api.Errno) {
	read := func() (uint64, api.Errno) {
		x, n := binary.Uvarint([]byte(d))
		if n == 0 {
			return 0, api.ErrShort
		}
		if n < 0 || x > math.MaxInt64 || num(x) != d[:n] {
			return 0, api.ErrForm
		}
		d = d[n:]
		return x, api.OK
	}
	size, e := read()
	if e != api.OK {
		return "", e
	}
	if size > api.MaxData {
		return "", api.ErrLimit
	}
	text := ""
	for d != "" {
		head, e := read()
		if e != api.OK {
			return "", e
		}
		n := head >> 1
		if n == 0 || uint64(len(text))+n > size {
			return "", api.ErrForm
		}
		if head&1 == 0 {
			if uint64(len(d)) < n {
				return "", api.ErrShort
			}
			text, d = text+d[:n], d[n:]
			continue
		}
		i, e := read()
		if e != api.OK {
			return "", e
		}
		if i+n > uint64(len(base)) {
			return "", api.ErrForm
		}
		text += base[i : i+n]
	}
	if uint64(len(text)) < size {
		return "", api.ErrShort
	}
	return text, api.OK
}

// 9.2: all deltas of up to six bytes out of a few.
func TestApplyAll(t *testing.T) {
	const letters = "\x00\x01\x02\x03\x04\x05\x80"
	var grow func(d string)
	grow = func(d string) {
		wanted, wantedE := model("abc", d)
		if s, e := delta.Apply("abc", d); s != wanted || e != wantedE {
			t.Fatalf("Apply(abc, %q) = %q, %d, want %q, %d", d, s, e, wanted, wantedE)
		}
		if len(d) == 6 {
			return
		}
		for i := range letters {
			grow(d + letters[i:i+1])
		}
	}
	grow("")
}

// 9.2: deltas of Encode with a byte changed, taken out or put in, and cut.
func TestApplyDamaged(t *testing.T) {
	r := rand.New(rand.NewSource(9))
	for range 20000 {
		base, text := pair(r, 40)
		d := delta.Encode(base, text)
		at := r.Intn(len(d))
		switch r.Intn(4) {
		case 0:
			d = d[:at] + string([]byte{byte(r.Intn(256))}) + d[at+1:]
		case 1:
			d = d[:at] + d[at+1:]
		case 2:
			d = d[:at] + string([]byte{byte(r.Intn(20))}) + d[at:]
		case 3:
			d = d[:at]
		}
		wanted, wantedE := model(base, d)
		if s, e := delta.Apply(base, d); s != wanted || e != wantedE {
			t.Fatalf("Apply(%q, %q) = %q, %d, want %q, %d", base, d, s, e, wanted, wantedE)
		}
	}
}
