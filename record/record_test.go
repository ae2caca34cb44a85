package record

import (
	"bytes"
	"math"
	"slices"
	"testing"

	"braidwork/api"
)

const big = 1 << 32

// far are generations and numbers that there are not.
var far = []int{math.MinInt, -big - 1, -big, -256, -1, big, big + 1, big + 7, 2 * big, 1 << 40, math.MaxInt}

// near are some that there are.
var near = []int{0, 1, 2, 127, 128, 255, 256, 258, 65535, 65536, 1 << 24, 1<<31 - 1, 1 << 31, big - 2, big - 1}

// edges are numbers of bytes at and next to where a part is full.
var edges = []int{0, 1, 2, 51, 52, 53, 54, 55, 105, 106, 107, 159, 160, 1007, 2066, 2067, 2068, 2118, 2119, 2120}

// count is n bytes that are none of them 0, and go round at 251, so that no part is like another.
func count(n int) []byte {
	b := make([]byte, n)
	for i := range b {
		b[i] = byte(i%251 + 1)
	}
	return b
}

// number is v in four bytes, told anew here.
func number(v int) []byte {
	return []byte{byte(v >> 24), byte(v >> 16), byte(v >> 8), byte(v)}
}

// plain is the sector that says this of itself, right or not, as the chapter tells it.
func plain(gen, num, part, parts, length int, held ...byte) api.Sector {
	var s api.Sector
	copy(s[:], slices.Concat(number(gen), number(num), []byte{byte(part), byte(parts), byte(length)}, held))
	return s
}

// plainParts is how many parts a record of n bytes has, counted out.
func plainParts(n int) int {
	parts := 1
	for n > 53 {
		parts++
		n -= 53
	}
	return parts
}

// plainSplit is the sectors of a record that may be one.
func plainSplit(gen, num int, b []byte) []api.Sector {
	var l []api.Sector
	parts := plainParts(len(b))
	for i := range parts {
		held := b[53*i:]
		if len(held) > 53 {
			held = held[:53]
		}
		l = append(l, plain(gen, num, i, parts, len(held), held...))
	}
	return l
}

// split is Split, twice, of bytes that are to stay as they were: the first answer is written over ahead of the second call.
func split(t *testing.T, gen, num int, b []byte) []api.Sector {
	t.Helper()
	lent := append(slices.Clone(b), 0xee, 0xee, 0xee)
	first := Split(gen, num, lent[:len(b)])
	l := slices.Clone(first)
	clear(first[:cap(first)])
	second := Split(gen, num, lent[:len(b)])
	if !slices.Equal(second, l) {
		t.Fatalf("Split(%d, %d, %v): %x, and then %x", gen, num, b, l, second)
	}
	if !bytes.Equal(lent, append(slices.Clone(b), 0xee, 0xee, 0xee)) {
		t.Fatalf("%v was handed in, and is %v", b, lent)
	}
	return l
}

// join is Join likewise.
func join(t *testing.T, gen, num int, l []api.Sector) ([]byte, bool) {
	t.Helper()
	lent := append(slices.Clone(l), api.Sector{0xee}, api.Sector{0xef})
	first, ok := Join(gen, num, lent[:len(l)])
	b := slices.Clone(first)
	first = first[:cap(first)]
	clear(first)
	second, again := Join(gen, num, lent[:len(l)])
	if again != ok || !bytes.Equal(second, b) {
		t.Fatalf("Join(%d, %d, %x): %v, %v, and then %v, %v", gen, num, l, b, ok, second, again)
	}
	if !slices.Equal(lent, append(slices.Clone(l), api.Sector{0xee}, api.Sector{0xef})) {
		t.Fatalf("%x was handed in, and is %x", l, lent)
	}
	return b, ok
}

// joins tells that these sectors are this record.
func joins(t *testing.T, gen, num int, l []api.Sector, want []byte) {
	t.Helper()
	if b, ok := join(t, gen, num, l); !ok || !bytes.Equal(b, want) {
		t.Errorf("Join(%d, %d) of %d sectors: %v, %v, not %v", gen, num, len(l), b, ok, want)
	}
}

// joinsNot tells that these are no record.
func joinsNot(t *testing.T, what string, gen, num int, l []api.Sector) {
	t.Helper()
	if b, ok := join(t, gen, num, l); ok || len(b) != 0 {
		t.Errorf("%s: Join(%d, %d) of %d sectors: %v, %v", what, gen, num, len(l), b, ok)
	}
}

// isPart tells that s is a part with this tag.
func isPart(t *testing.T, s api.Sector, want Tag) {
	t.Helper()
	if tag, ok := TagOf(s); !ok || tag != want {
		t.Errorf("TagOf of %x: %v, %v, not %v", s, tag, ok, want)
	}
}

// isNone tells that s is no part, and that Join takes it for none.
func isNone(t *testing.T, s api.Sector) {
	t.Helper()
	if tag, ok := TagOf(s); ok || tag != (Tag{}) {
		t.Errorf("TagOf of %x: %v, %v", s, tag, ok)
	}
	gen := int(s[0])<<24 | int(s[1])<<16 | int(s[2])<<8 | int(s[3])
	num := int(s[4])<<24 | int(s[5])<<16 | int(s[6])<<8 | int(s[7])
	for _, n := range []int{1, int(s[9])} {
		joinsNot(t, "a sector that is no part", gen, num, slices.Repeat([]api.Sector{s}, n))
	}
}
