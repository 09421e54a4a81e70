package delta_test

import (
	"math/rand"
	"strings"
	"testing"

	"tether/api"
	"tether/delta"
)

// letters answers a text of n bytes out of so many letters.
func letters(r *rand.Rand, n, kinds int) string {
	out := make([]byte, n)
	for i := range out {
		out[i] = byte(r.Intn(kinds))
	}
	return string(out)
}

// pair answers a base and a text, often one that was made of the base.
func pair(r *rand.Rand, most int) (base, text string) {
	kinds := 1 + r.Intn(4)*r.Intn(86)
	base = letters(r, r.Intn(most+1), kinds)
	if r.Intn(4) == 0 {
		return base, letters(r, r.Intn(most+1), kinds)
	}
	for range 1 + r.Intn(6) {
		a, b := r.Intn(len(base)+1), r.Intn(len(base)+1)
		if a < b {
			text += base[a:b]
		}
		text += letters(r, r.Intn(4), 256)
	}
	return base, text[:min(len(text), most)]
}

// tells encodes and applies, holds the delta against its bound, and answers it.
func tells(t *testing.T, base, text string) string {
	t.Helper()
	d := delta.Encode(base, text)
	if again := delta.Encode(strings.Clone(base), strings.Clone(text)); again != d {
		t.Fatalf("Encode(%.40q, %.40q) answers two deltas", base, text)
	}
	s, e := delta.Apply(base, d)
	if len(text) > api.MaxData {
		if s != "" || e != api.ErrLimit {
			t.Fatalf("Apply of a text of %d bytes: %.40q, %d", len(text), s, e)
		}
		return d
	}
	if s != text || e != api.OK {
		t.Fatalf("Apply of Encode(%.40q, %.40q) = %.40q, %d", base, text, s, e)
	}
	if len(base) > api.MaxData {
		return d
	}
	if len(d) > len(text)+8 {
		t.Fatalf("Encode(%.40q, %.40q) has %d bytes, the text %d", base, text, len(d), len(text))
	}
	if base == text && len(text) >= 8 && len(d) > 8 {
		t.Fatalf("Encode(%.40q, itself) has %d bytes", base, len(d))
	}
	return d
}

// lines answers numbered lines.
func lines(n int) []string {
	out := []string{}
	for i := range n {
		out = append(out, "line "+string([]byte{byte('0' + i/100%10), byte('0' + i/10%10), byte('0' + i%10)})+"\n")
	}
	return out
}

// 9.1, 9.3: empty and short texts, all of them out of two letters.
func TestShort(t *testing.T) {
	all := []string{""}
	for i := 0; len(all[i]) < 6; i++ {
		all = append(all, all[i]+"a", all[i]+"b")
	}
	for _, base := range all {
		for _, text := range all {
			tells(t, base, text)
		}
	}
}

// 9.1: a text that is its base, of every length up to the limit, however often its parts come again.
func TestSame(t *testing.T) {
	r := rand.New(rand.NewSource(1))
	for _, kinds := range []int{1, 2, 256} {
		whole := letters(r, api.MaxData, kinds)
		for n := 0; n <= 300; n++ {
			tells(t, whole[:n], whole[:n])
		}
		for _, n := range []int{1000, 4095, 4096} {
			tells(t, whole[:n], whole[:n])
		}
	}
	tells(t, strings.Repeat("abcd", 1024), strings.Repeat("abcd", 1024))
	tells(t, strings.Repeat("some line\n", 400), strings.Repeat("some line\n", 400))
}

// 9.1: texts that have nothing of the base, or so little at so many places that copying it doesn't pay.
func TestBound(t *testing.T) {
	r := rand.New(rand.NewSource(2))
	for _, n := range []int{0, 1, 63, 64, 127, 128, 4095, 4096} {
		tells(t, "", letters(r, n, 256))
		tells(t, letters(r, 4096, 256), letters(r, n, 256))
		tells(t, letters(r, n, 2), letters(r, 4096, 2))
	}
	base := letters(r, api.MaxData, 256)
	for run := 1; run < 12; run++ {
		text := ""
		for len(text)+run < api.MaxData {
			at := r.Intn(len(base) - run)
			text += base[at:at+run] + letters(r, 1, 256)
		}
		tells(t, base, text)
	}
}

// 9.1, 9.3: texts of random pieces of the base.
func TestRandom(t *testing.T) {
	r := rand.New(rand.NewSource(3))
	for range 4000 {
		base, text := pair(r, 60)
		tells(t, base, text)
	}
	for range 100 {
		base, text := pair(r, api.MaxData)
		tells(t, base, text)
	}
}

// 9.1: what is alike takes little, wherever the base was changed.
func TestLittle(t *testing.T) {
	for _, n := range []int{3, 50, 400} {
		row := lines(n)
		base := strings.Join(row, "")
		for _, at := range []int{0, 1, n / 2, n - 1} {
			ahead, behind := strings.Join(row[:at], ""), strings.Join(row[at+1:], "")
			for _, text := range []string{ahead + behind, ahead + row[at] + "new line\n" + behind, ahead + "other line\n" + behind} {
				if d := tells(t, base, text); len(d) > 30 {
					t.Errorf("a line of %d changed at %d: the delta has %d bytes", n, at, len(d))
				}
			}
		}
	}
}

// 9.1: of many places with the same beginning the one that is alike for longest is copied, wherever it stands.
func TestLongest(t *testing.T) {
	for at := range 20 {
		row := lines(20)
		row[at] = "line of its own, longer than all others\n"
		base := "first\n" + strings.Join(row, "")
		for _, text := range []string{row[at], "new" + row[at], row[at] + "new", row[at] + row[at]} {
			if d := tells(t, base, text); len(d) > 12 {
				t.Errorf("line %d copied: the delta has %d bytes", at, len(d))
			}
		}
	}
}

// 9.3: a text above the limit is encoded, but not told back; a base above it does no harm.
func TestAboveLimit(t *testing.T) {
	r := rand.New(rand.NewSource(4))
	for _, n := range []int{api.MaxData + 1, 20000, 300000} {
		long := letters(r, n, 256)
		tells(t, "", long)
		tells(t, long, long)
		tells(t, long, long[:api.MaxData])
		tells(t, long, long[n-api.MaxData:])
		tells(t, long, "x"+long[n-200:]+long[:200])
		same := strings.Repeat("a", n)
		tells(t, same, same)
		tells(t, same, strings.Repeat("aaaab", n/5))
		tells(t, same, strings.Repeat("aaaab", 800))
	}
}
