package record

import (
	"bytes"
	"testing"

	"braidwork/api"
)

func TestTagsOfParts(t *testing.T) {
	isPart(t, api.Sector{0, 0, 0, 7, 0, 0, 0, 1, 0, 1, 2, 'a', 'b'}, Tag{Gen: 7, Num: 1, Part: 0, Parts: 1, Len: 2})
	isPart(t, plain(0x01020304, 0x0a0b0c0d, 0, 1, 1, 9), Tag{Gen: 0x01020304, Num: 0x0a0b0c0d, Parts: 1, Len: 1})
	isPart(t, plain(big-1, big-1, 39, 40, 53, count(53)...), Tag{Gen: big - 1, Num: big - 1, Part: 39, Parts: 40, Len: 53})
	isPart(t, plain(0, 0, 0, 1, 0), Tag{Parts: 1})
}

func TestGenerationsAndNumbersOfTags(t *testing.T) {
	for _, gen := range near {
		for _, num := range near {
			isPart(t, plain(gen, num, 1, 2, 3, 4, 5, 6), Tag{Gen: gen, Num: num, Part: 1, Parts: 2, Len: 3})
		}
	}
}

// may tells whether a part may say this of itself, as the chapter tells it.
func may(part, parts, length int) bool {
	switch {
	case part >= parts, parts < 1, parts > 40, length > 53:
		return false
	case part < parts-1:
		return length == 53
	}
	return length > 0 || parts == 1
}

// Each byte for part, parts and how many it holds, next to where it may be one, and far from it.
func TestWhatATagMaySay(t *testing.T) {
	lengths := []int{0, 1, 2, 26, 51, 52, 53, 54, 55, 64, 127, 128, 254, 255}
	for part := range 256 {
		for parts := range 256 {
			for _, length := range lengths {
				s := plain(7, 1, part, parts, length, count(min(length, 53))...)
				want := Tag{Gen: 7, Num: 1, Part: part, Parts: parts, Len: length}
				tag, ok := TagOf(s)
				if may(part, parts, length) != ok || ok && tag != want || !ok && tag != (Tag{}) {
					t.Fatalf("part %d of %d that holds %d: %v, %v", part, parts, length, tag, ok)
				}
			}
		}
	}
	for length := range 256 {
		for _, p := range [][2]int{{0, 1}, {0, 2}, {1, 2}, {38, 40}, {39, 40}} {
			s := plain(7, 1, p[0], p[1], length, count(min(length, 53))...)
			if _, ok := TagOf(s); ok != may(p[0], p[1], length) {
				t.Errorf("part %d of %d that holds %d: %v", p[0], p[1], length, ok)
			}
		}
	}
}

func TestThoseThatAreNoParts(t *testing.T) {
	full := count(53)
	isNone(t, api.Sector{})
	isNone(t, api.Sector(bytes.Repeat([]byte{0xff}, 64)))
	isNone(t, plain(7, 1, 0, 0, 0))            // no parts
	isNone(t, plain(7, 1, 0, 0, 53, full...))  // likewise
	isNone(t, plain(7, 1, 1, 1, 2, 8, 9))      // not below its parts
	isNone(t, plain(7, 1, 2, 1, 2, 8, 9))      // likewise
	isNone(t, plain(7, 1, 40, 40, 2, 8, 9))    // likewise
	isNone(t, plain(7, 1, 0, 41, 53, full...)) // too many
	isNone(t, plain(7, 1, 40, 41, 2, 8, 9))    // likewise
	isNone(t, plain(7, 1, 0, 1, 54, full...))  // more than there is room for
	isNone(t, plain(7, 1, 0, 1, 54))           // likewise
	isNone(t, plain(7, 1, 0, 2, 52, full[:52]...))
	isNone(t, plain(7, 1, 0, 2, 0))
	isNone(t, plain(7, 1, 38, 40, 52, full[:52]...))
	isNone(t, plain(7, 1, 1, 2, 0)) // the last one of two
	isNone(t, plain(7, 1, 39, 40, 0))
	isPart(t, plain(7, 1, 0, 1, 0), Tag{Gen: 7, Num: 1, Parts: 1})
	isPart(t, plain(7, 1, 0, 1, 53, full...), Tag{Gen: 7, Num: 1, Parts: 1, Len: 53})
	isPart(t, plain(7, 1, 0, 40, 53, full...), Tag{Gen: 7, Num: 1, Parts: 40, Len: 53})
	isPart(t, plain(7, 1, 1, 2, 1, 8), Tag{Gen: 7, Num: 1, Part: 1, Parts: 2, Len: 1})
}

// A byte that is not 0, at each place behind what a part holds; noughts that it holds are as good as others.
func TestAByteBehindWhatItHolds(t *testing.T) {
	for _, p := range [][2]int{{0, 1}, {1, 2}, {39, 40}} {
		for length := range 53 {
			if !may(p[0], p[1], length) {
				continue
			}
			isPart(t, plain(7, 1, p[0], p[1], length), Tag{Gen: 7, Num: 1, Part: p[0], Parts: p[1], Len: length})
			for at := 11 + length; at < 64; at++ {
				for _, x := range []byte{1, 128, 255} {
					s := plain(7, 1, p[0], p[1], length, count(length)...)
					s[at] = x
					isNone(t, s)
				}
			}
		}
	}
}

// Whatever one byte of a part is: it is a part that says so, or none.
func TestOneOtherByteOfAPart(t *testing.T) {
	for _, n := range []int{0, 1, 40, 53, 54, 106, 2120} {
		l := plainSplit(0x01020304, 0x0a0b0c0d, count(n))
		for _, s := range []api.Sector{l[0], l[len(l)-1]} {
			for at := range s {
				for v := range 256 {
					x := s
					x[at] = byte(v)
					otherByte(t, x)
				}
			}
		}
	}
}

func otherByte(t *testing.T, x api.Sector) {
	t.Helper()
	part, parts, length := int(x[8]), int(x[9]), int(x[10])
	ok := may(part, parts, length)
	for i := 11 + length; i < 64; i++ {
		ok = ok && x[i] == 0
	}
	want := Tag{}
	if ok {
		want = Tag{int(x[0])<<24 | int(x[1])<<16 | int(x[2])<<8 | int(x[3]), int(x[4])<<24 | int(x[5])<<16 | int(x[6])<<8 | int(x[7]), part, parts, length}
	}
	if tag, is := TagOf(x); is != ok || tag != want {
		t.Fatalf("TagOf of %x: %v, %v, not %v, %v", x, tag, is, want, ok)
	}
}
