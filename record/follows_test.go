package record

import (
	"bytes"
	"testing"

	"braidwork/api"
)

// kinds are bytes of each kind: noughts, all bits, what goes round, what looks like a part, and what looks like none of these.
func kinds(n int) [][]byte {
	noughts := make([]byte, n)
	ones := bytes.Repeat([]byte{0xff}, n)
	tags := bytes.Repeat([]byte{0, 0, 0, 7, 0, 0, 0, 1, 0, 1, 2, 'a', 'b'}, n/13+1)[:n]
	ends := count(n) // ends with a nought, as what stands behind a part's bytes
	if n > 0 {
		ends[n-1] = 0
	}
	mixed := make([]byte, n)
	x := uint32(n) + 1
	for i := range mixed {
		x = x*1664525 + 1013904223
		mixed[i] = byte(x >> 24)
	}
	return [][]byte{noughts, ones, count(n), tags, ends, mixed}
}

// What is split is joined, whatever the bytes; each sector is the part that it should be.
func TestWhatIsSplitIsJoined(t *testing.T) {
	for n := range 2121 {
		for k, b := range kinds(n) {
			gen, num := near[(n+k)%len(near)], near[(n+3*k+1)%len(near)]
			l := Split(gen, num, b)
			if len(l) != Parts(n) {
				t.Fatalf("%d bytes: %d sectors", n, len(l))
			}
			for i, s := range l {
				isPart(t, s, Tag{Gen: gen, Num: num, Part: i, Parts: len(l), Len: min(53, n-53*i)})
			}
			if got, ok := Join(gen, num, l); !ok || !bytes.Equal(got, b) {
				t.Fatalf("Join(%d, %d) of %v split: %v, %v", gen, num, b, got, ok)
			}
		}
	}
}

// A sector of another generation or number is never taken for a part, whatever the record holds.
func TestAnotherGenerationOrNumber(t *testing.T) {
	for _, n := range edges {
		for _, b := range kinds(n) {
			l := Split(7, 1, b)
			for _, pair := range [][2]int{{8, 1}, {6, 1}, {0, 1}, {7, 0}, {7, 2}, {1, 7}, {7, big - 1}, {big - 1, 1}, {7 + big, 1}, {7, 1 + big}} {
				joinsNot(t, "another generation or number", pair[0], pair[1], l)
				other := Split(pair[0], pair[1], b)
				for i := range other {
					x := Split(7, 1, b)
					x[i] = other[i]
					joinsNot(t, "a part of another one", 7, 1, x)
				}
			}
		}
	}
}

// What a record holds stands in its sectors as it is: two that are unlike have sectors that are unlike.
func TestUnlikeRecordsHaveUnlikeSectors(t *testing.T) {
	seen := map[api.Sector]int{}
	for n := range 54 {
		for k, b := range kinds(n)[:3] {
			if n == 0 && k > 0 {
				continue
			}
			s := Split(7, 1, b)[0]
			if at, is := seen[s]; is {
				t.Errorf("records %d and %d have the same sector", at, 3*n+k)
			}
			seen[s] = 3*n + k
		}
	}
}

// What Join takes is what Split of it makes: there is no other way to write a record.
func TestWhatIsJoinedIsSplit(t *testing.T) {
	taken := 0
	for part := range 4 {
		for parts := range 5 {
			for length := range 56 {
				for _, tail := range []byte{0, 1} {
					last := plain(7, 1, part, parts, length, count(min(length, 53))...)
					last[63] = max(last[63], tail)
					l := plainSplit(7, 1, count(53*(part+1)))
					l[part] = last
					for i := range part {
						l[i][9] = byte(parts)
					}
					b, ok := Join(7, 1, l)
					if !ok {
						continue
					}
					taken++
					if want := Split(7, 1, b); len(want) != len(l) || want[part] != last {
						t.Errorf("%x was joined, and is split to %x", l, want)
					}
				}
			}
		}
	}
	// Of one part 0 to 53 bytes, of two, three and four 1 to 53; of 53 the last byte is no nought anyway.
	if want := 54 + 3*53 + 4; taken != want {
		t.Errorf("%d lists were joined, not %d", taken, want)
	}
}
