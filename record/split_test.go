package record

import (
	"math"
	"slices"
	"testing"

	"braidwork/api"
)

func TestPartsOfARecord(t *testing.T) {
	for n, want := range map[int]int{
		0: 1, 1: 1, 52: 1, 53: 1, 54: 2, 105: 2, 106: 2, 107: 3, 159: 3, 160: 4,
		2066: 39, 2067: 39, 2068: 40, 2119: 40, 2120: 40,
		2121: 0, 2122: 0, 2173: 0, 2174: 0, 4240: 0, 1 << 32: 0, math.MaxInt - 52: 0, math.MaxInt: 0,
		-1: 0, -2: 0, -52: 0, -53: 0, -54: 0, -2120: 0, -1 << 32: 0, math.MinInt: 0, math.MinInt + 1: 0,
	} {
		if parts := Parts(n); parts != want {
			t.Errorf("Parts(%d): %d, not %d", n, parts, want)
		}
	}
	for n := range 2121 {
		if parts := Parts(n); parts != plainParts(n) {
			t.Errorf("Parts(%d): %d, not %d", n, parts, plainParts(n))
		}
	}
}

func TestTheExampleOfSplit(t *testing.T) {
	want := []api.Sector{{0, 0, 0, 7, 0, 0, 0, 1, 0, 1, 2, 'a', 'b'}}
	if l := split(t, 7, 1, []byte("ab")); !slices.Equal(l, want) {
		t.Errorf("%x, not %x", l, want)
	}
}

func TestSplitOfNoBytesIsOnePart(t *testing.T) {
	want := []api.Sector{{0, 0, 0, 7, 0, 0, 1, 2, 0, 1, 0}}
	for _, b := range [][]byte{nil, {}} {
		if l := split(t, 7, 258, b); !slices.Equal(l, want) {
			t.Errorf("%x, not %x", l, want)
		}
	}
}

// Each byte of three sectors, as the chapter's words have them.
func TestBytesOfSplit(t *testing.T) {
	b := count(2*53 + 3)
	l := split(t, 0x01020304, 0x0a0b0c0d, b)
	if len(l) != 3 {
		t.Fatal(len(l))
	}
	for i, s := range l {
		holds := []int{53, 53, 3}[i]
		if head := [11]byte(s[:]); head != [11]byte{1, 2, 3, 4, 10, 11, 12, 13, byte(i), 3, byte(holds)} {
			t.Errorf("part %d begins with %v", i, head)
		}
		for j, x := range s[11:] {
			switch {
			case j < holds && x != b[53*i+j]:
				t.Errorf("part %d: the byte %d that it holds is %d, not %d", i, j, x, b[53*i+j])
			case j >= holds && x != 0:
				t.Errorf("part %d: behind what it holds stands %d", i, x)
			}
		}
	}
}

func TestSplitOfAnyNumberOfBytes(t *testing.T) {
	all := count(2120)
	for n := range 2121 {
		if l := Split(big-1, 65537, all[:n]); !slices.Equal(l, plainSplit(big-1, 65537, all[:n])) {
			t.Fatalf("%d bytes: %x", n, l)
		}
	}
}

func TestSplitOfTooMany(t *testing.T) {
	for _, n := range []int{2121, 2122, 2172, 2173, 2174, 4240, 65536, 1 << 20} {
		if l := split(t, 7, 1, count(n)); len(l) != 0 {
			t.Errorf("%d bytes: %d sectors", n, len(l))
		}
	}
}

func TestGenerationsAndNumbersOfSplit(t *testing.T) {
	for _, n := range []int{0, 2, 53, 60, 2120} {
		b := count(n)
		for _, v := range near {
			for _, pair := range [][2]int{{v, 3}, {3, v}, {v, v}, {0, v}, {v, 0}, {v, big - 1}, {big - 1, v}} {
				if l := split(t, pair[0], pair[1], b); !slices.Equal(l, plainSplit(pair[0], pair[1], b)) {
					t.Errorf("%v of %d bytes: %x", pair, n, l)
				}
			}
		}
		for _, v := range far {
			for _, pair := range [][2]int{{v, 3}, {3, v}, {v, v}, {0, v}, {v, 0}} {
				if l := split(t, pair[0], pair[1], b); len(l) != 0 {
					t.Errorf("%v of %d bytes: %x", pair, n, l)
				}
			}
		}
	}
	if l := split(t, -1, big, count(2121)); len(l) != 0 {
		t.Errorf("%x", l)
	}
}

func TestSectorsOfSplitAreTheCallers(t *testing.T) {
	b := count(200)
	l, other := Split(7, 1, b), Split(7, 2, b)
	clear(b)
	clear(other)
	if !slices.Equal(l, plainSplit(7, 1, count(200))) {
		t.Error("what Split answers changes with what it was handed, or with another answer")
	}
	b = count(200)
	clear(Split(7, 1, b))
	if !slices.Equal(b, count(200)) {
		t.Error("what Split was handed changes with its answer")
	}
}
