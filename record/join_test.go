package record

import (
	"bytes"
	"slices"
	"testing"

	"braidwork/api"
)

func TestJoinOfWhatIsPlain(t *testing.T) {
	joins(t, 7, 1, []api.Sector{{0, 0, 0, 7, 0, 0, 0, 1, 0, 1, 2, 'a', 'b'}}, []byte("ab"))
	joins(t, 7, 1, []api.Sector{plain(7, 1, 0, 1, 0)}, nil)
	joins(t, 0, 0, []api.Sector{plain(0, 0, 0, 1, 0)}, nil)
	for _, n := range edges {
		joins(t, 258, 65537, plainSplit(258, 65537, count(n)), count(n))
		joins(t, 258, 65537, plainSplit(258, 65537, make([]byte, n)), make([]byte, n))
	}
}

func TestJoinOfNoSectors(t *testing.T) {
	for _, v := range []int{0, 1, 7, big - 1, -1, big} {
		joinsNot(t, "nil", v, v, nil)
		joinsNot(t, "no sectors", v, v, []api.Sector{})
	}
}

func TestGenerationsAndNumbersOfJoin(t *testing.T) {
	for _, gen := range near {
		for _, num := range near {
			l := plainSplit(gen, num, count(60))
			joins(t, gen, num, l, count(60))
			for _, d := range []int{1, -1, 256, -256, 65536, 1 << 24, big, -big, 2 * big, 1 << 40} {
				joinsNot(t, "another generation", gen+d, num, l)
				joinsNot(t, "another number", gen, num+d, l)
				joinsNot(t, "others of both", gen+d, num+d, l)
			}
			if gen != num {
				joinsNot(t, "changed about", num, gen, l)
			}
		}
	}
	for _, v := range far {
		for _, n := range []int{0, 2, 60} {
			l := plainSplit(v, v, count(n)) // what of it has room in its bytes
			joinsNot(t, "of no generation", v, 3, l)
			joinsNot(t, "of no number", 3, v, l)
			joinsNot(t, "of none of both", v, v, l)
			joinsNot(t, "of no generation", v, v&(big-1), l)
			joinsNot(t, "of no number", v&(big-1), v, l)
		}
	}
}

func TestOnePartLess(t *testing.T) {
	for _, n := range edges {
		l := plainSplit(7, 1, count(n))
		for i := range l {
			joinsNot(t, "one part less", 7, 1, slices.Delete(slices.Clone(l), i, i+1))
		}
	}
	l := plainSplit(7, 1, count(2120))
	for n := range l {
		joinsNot(t, "the first ones", 7, 1, l[:n])
		if n > 0 {
			joinsNot(t, "the last ones", 7, 1, l[n:])
		}
	}
}

func TestOnePartMore(t *testing.T) {
	for _, n := range edges {
		l := plainSplit(7, 1, count(n))
		parts := len(l)
		for i := range parts + 1 {
			for _, more := range []api.Sector{{}, plain(7, 1, 0, 1, 0), plain(7, 1, parts, parts+1, 1, 9), plain(7, 1, parts, parts, 1, 9), plain(8, 1, 0, 1, 1, 9)} {
				joinsNot(t, "one more", 7, 1, slices.Insert(slices.Clone(l), i, more))
			}
		}
		joinsNot(t, "the next record, too", 7, 1, append(slices.Clone(l), plainSplit(7, 2, count(5))...))
		joinsNot(t, "the record ahead, too", 7, 1, append(plainSplit(7, 0, count(5)), l...))
		joinsNot(t, "twice", 7, 1, append(slices.Clone(l), l...))
	}
}

func TestOnePartTwice(t *testing.T) {
	for _, n := range edges {
		l := plainSplit(7, 1, count(n))
		for i := range l {
			joinsNot(t, "one part twice", 7, 1, slices.Insert(slices.Clone(l), i, l[i]))
			for j := range l {
				if i == j {
					continue
				}
				x := slices.Clone(l)
				x[j] = l[i]
				joinsNot(t, "one part in the stead of another", 7, 1, x)
			}
		}
	}
}

func TestPartsChangedAbout(t *testing.T) {
	for _, n := range edges {
		l := plainSplit(7, 1, count(n))
		for i := range l {
			for j := range i {
				x := slices.Clone(l)
				x[i], x[j] = x[j], x[i]
				joinsNot(t, "two parts changed about", 7, 1, x)
			}
		}
		if len(l) > 1 {
			slices.Reverse(l)
			joinsNot(t, "the last one first", 7, 1, l)
		}
	}
}

// inEachStead puts each of the parts of other, a record of as many, in the stead of that of the record 1 of the generation 7.
func inEachStead(t *testing.T, what string, n int, other []api.Sector) {
	t.Helper()
	l := plainSplit(7, 1, count(n))
	for i := range l {
		x := slices.Clone(l)
		x[i] = other[i]
		joinsNot(t, what, 7, 1, x)
	}
}

func TestAPartOfAnotherRecord(t *testing.T) {
	for _, n := range edges {
		inEachStead(t, "a part of the next generation", n, plainSplit(8, 1, count(n)))
		inEachStead(t, "a part of the generation ahead", n, plainSplit(6, 1, count(n)))
		inEachStead(t, "a part of a generation far from it", n, plainSplit(7<<24|7, 1, count(n)))
		inEachStead(t, "a part of the next number", n, plainSplit(7, 2, count(n)))
		inEachStead(t, "a part of the number ahead", n, plainSplit(7, 0, count(n)))
		inEachStead(t, "a part of a number far from it", n, plainSplit(7, 1<<24|1, count(n)))
		inEachStead(t, "a part of both changed about", n, plainSplit(1, 7, count(n)))
		// The same generation and number, but one part more.
		if n > 0 && n <= 2120-53 {
			inEachStead(t, "a part of a longer record", n, plainSplit(7, 1, count(n+53)))
		}
	}
}

// A part of this generation and number, of as many, is what it says: Join tells what those that are there hold.
func TestAPartOfAsManyOfTheSameNumber(t *testing.T) {
	for _, n := range []int{1, 53, 54, 106, 130, 2120} {
		l := plainSplit(7, 1, count(n))
		other := bytes.Repeat([]byte{0xaa}, n)
		for i, s := range plainSplit(7, 1, other) {
			x := slices.Clone(l)
			x[i] = s
			want := count(n)
			copy(want[53*i:min(53*i+53, n)], other)
			joins(t, 7, 1, x, want)
		}
	}
	// One whose last part holds less.
	l := plainSplit(7, 1, count(106))
	l[1] = plain(7, 1, 1, 2, 2, 8, 9)
	joins(t, 7, 1, l, append(count(53), 8, 9))
}

func TestASectorThatIsNoPartInAnyPlace(t *testing.T) {
	for _, n := range edges {
		l := plainSplit(7, 1, count(n))
		parts := len(l)
		for i := range l {
			for _, bad := range []api.Sector{
				{},
				api.Sector(bytes.Repeat([]byte{0xff}, 64)),
				plain(7, 1, parts, parts, 53, count(53)...),
				plain(7, 1, i, 0, 53, count(53)...),
				plain(7, 1, i, 41, 53, count(53)...),
				plain(7, 1, i, parts, 54, count(53)...),
				plain(7, 1, i, parts, 255, count(53)...),
				plain(7, 1, i, parts, 52, count(53)...),
				plain(7, 1, i, parts, 0, count(53)...),
			} {
				x := slices.Clone(l)
				x[i] = bad
				joinsNot(t, "a sector that is no part", 7, 1, x)
			}
			if i < parts-1 {
				x := slices.Clone(l)
				x[i] = plain(7, 1, i, parts, 52, count(52)...)
				joinsNot(t, "a part that holds less, and is not the last one", 7, 1, x)
			} else if parts > 1 {
				x := slices.Clone(l)
				x[i] = plain(7, 1, i, parts, 0)
				joinsNot(t, "the last one of more, that holds nothing", 7, 1, x)
			}
		}
	}
}

// 41 sectors that say that they are of 41 parts are none, though 40 are; nor are as many as a byte says, and more.
func TestTooManySectors(t *testing.T) {
	for _, parts := range []int{41, 42, 128, 255, 256, 257, 256 + 40} {
		var l []api.Sector
		for i := range parts {
			l = append(l, plain(7, 1, i, parts, 53, count(53)...))
		}
		joinsNot(t, "too many", 7, 1, l)
	}
	joinsNot(t, "a very long list", 7, 1, slices.Repeat(plainSplit(7, 1, count(5)), 100000))
}

func TestBytesOfJoinAreTheCallers(t *testing.T) {
	l := plainSplit(7, 1, count(200))
	b, _ := Join(7, 1, l)
	other, _ := Join(7, 1, l)
	clear(other)
	clear(l)
	if !bytes.Equal(b, count(200)) {
		t.Error("what Join answers changes with what it was handed, or with another answer")
	}
	l = plainSplit(7, 1, count(200))
	b, _ = Join(7, 1, l)
	clear(b[:cap(b)])
	if !slices.Equal(l, plainSplit(7, 1, count(200))) {
		t.Error("what Join was handed changes with its answer")
	}
}
