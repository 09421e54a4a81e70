package delta

const (
	block = 4   // the fewest bytes that a copy can be worth
	tries = 256 // how many places are tried for one copy: a base of one letter has too many
)

// index tells at which places of a base its blocks stand.
type index struct {
	base  string
	first map[uint32]int // by a block, one more than the first place
	next  []int          // by a place, one more than the next one of the same block
}

// indexed answers the index of a base.
func indexed(base string) *index {
	in := &index{base: base, first: map[uint32]int{}, next: make([]int, len(base))}
	// From the end on, so that the places of a block are found rising.
	for at := len(base) - block; at >= 0; at-- {
		key := blockAt(base, at)
		in.next[at] = in.first[key]
		in.first[key] = at + 1
	}
	return in
}

// longest answers a place of the base from which it is alike the beginning of s, and for how many bytes: the longest such run among the places that are tried, the likely one ahead of all others.
func (in *index) longest(s string, likely int) (from, n int) {
	if len(s) < block {
		return 0, 0
	}
	if likely >= 0 && likely < len(in.base) {
		from, n = likely, alike(in.base[likely:], s)
	}
	at := in.first[blockAt(s, 0)] - 1
	for tried := 0; at >= 0 && tried < tries && n < len(s); tried++ {
		if in.reaches(at, n, s[n]) {
			if m := alike(in.base[at:], s); m > n {
				from, n = at, m
			}
		}
		at = in.next[at] - 1
	}
	return from, n
}

// reaches tells whether the byte c stands n bytes behind a place: where it doesn't, no run from there is longer than n.
func (in *index) reaches(at, n int, c byte) bool {
	return at+n < len(in.base) && in.base[at+n] == c
}

// blockAt answers the block at a place as one number.
func blockAt(s string, at int) uint32 {
	return uint32(s[at]) | uint32(s[at+1])<<8 | uint32(s[at+2])<<16 | uint32(s[at+3])<<24
}

// alike answers how many bytes the two begin with alike.
func alike(a, b string) int {
	n := 0
	for n < len(a) && n < len(b) && a[n] == b[n] {
		n++
	}
	return n
}
