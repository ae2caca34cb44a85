package extent

import (
	"math"
	"testing"
)

// placesOf is the first sectors of all extents of a member with so many sectors, as the chapter tells it: behind the first 114, eight sectors each, as long as whole ones have room.
func placesOf(sectors int) []int {
	var l []int
	for at := 114; at+8 <= sectors; at += 8 {
		l = append(l, at)
	}
	return l
}

func TestTheChaptersExamplesOfNumbers(t *testing.T) {
	for sectors, want := range map[int]int{160: 5, 121: 0, 122: 1} {
		if n := Count(sectors); n != want {
			t.Errorf("Count(%d): %d, not %d", sectors, n, want)
		}
	}
	if at := Place(2); at != 130 {
		t.Errorf("Place(2): %d", at)
	}
	if i, ok := Index(130); i != 2 || !ok {
		t.Errorf("Index(130): %d, %v", i, ok)
	}
	if i, ok := Index(131); i != 0 || ok {
		t.Errorf("Index(131): %d, %v", i, ok)
	}
}

func TestCountIsAsManyAsAreWhole(t *testing.T) {
	for sectors := -300; sectors <= 4500; sectors++ {
		if n, want := Count(sectors), len(placesOf(sectors)); n != want {
			t.Errorf("Count(%d): %d, not %d", sectors, n, want)
		}
	}
}

func TestCountNextToEachWholeExtent(t *testing.T) {
	for n := 1; n <= 497; n++ {
		whole := 114 + 8*n
		for sectors, want := range map[int]int{whole - 1: n - 1, whole: n, whole + 1: n, whole + 7: n} {
			if got := Count(sectors); got != want {
				t.Errorf("Count(%d): %d, not %d", sectors, got, want)
			}
		}
	}
}

func TestCountOfTheSmallestAndTheGreatest(t *testing.T) {
	for sectors, want := range map[int]int{
		math.MinInt: 0, math.MinInt + 1: 0, math.MinInt + 113: 0, math.MinInt + 114: 0, math.MinInt + 122: 0, math.MinInt + 1000: 0,
		-1 << 40: 0, -4096: 0, -114: 0, -8: 0, -1: 0, 0: 0, 1: 0, 8: 0, 113: 0, 114: 0, 115: 0,
		4089: 496, 4090: 497, 4095: 497, 4096: 497, 4097: 497, 4098: 498,
		114 + 8<<40: 1 << 40, 113 + 8<<40: 1<<40 - 1, math.MaxInt: (math.MaxInt - 114) / 8,
	} {
		if n := Count(sectors); n != want {
			t.Errorf("Count(%d): %d, not %d", sectors, n, want)
		}
	}
}

func TestPlacesStandOneBehindTheOther(t *testing.T) {
	want := 114
	for i := range 2000 {
		if at := Place(i); at != want {
			t.Fatalf("Place(%d): %d, not %d", i, at, want)
		}
		want += 8
	}
	if at := Place(1 << 40); at != 114+8<<40 {
		t.Errorf("Place(1<<40): %d", at)
	}
}

func TestCountIsOfThePlacesThatHaveRoom(t *testing.T) {
	for sectors := range 4500 {
		n := Count(sectors)
		if n > 0 && Place(n-1)+8 > sectors {
			t.Errorf("%d sectors: the last of %d extents ends behind them", sectors, n)
		}
		if Place(n)+8 <= sectors {
			t.Errorf("%d sectors: there is room for more than %d extents", sectors, n)
		}
	}
}

func TestIndexOfAllSectors(t *testing.T) {
	next := 114
	for at := -300; at <= 4500; at++ {
		i, ok := Index(at)
		if at != next {
			if i != 0 || ok {
				t.Errorf("Index(%d): %d, %v", at, i, ok)
			}
			continue
		}
		if i != (at-114)/8 || !ok {
			t.Errorf("Index(%d): %d, %v", at, i, ok)
		}
		next += 8
	}
}

func TestIndexOfPlacesIsThem(t *testing.T) {
	for _, first := range []int{0, 490, 100000, 1 << 40} {
		for i := first; i < first+1000; i++ {
			if got, ok := Index(Place(i)); got != i || !ok {
				t.Fatalf("Index of Place(%d): %d, %v", i, got, ok)
			}
			for off := 1; off < 8; off++ {
				if got, ok := Index(Place(i) + off); got != 0 || ok {
					t.Fatalf("Index of Place(%d) + %d: %d, %v", i, off, got, ok)
				}
			}
		}
	}
}

func TestIndexOfTheSmallestAndTheGreatest(t *testing.T) {
	for off := range 300 {
		if i, ok := Index(math.MinInt + off); i != 0 || ok {
			t.Errorf("Index(%d): %d, %v", math.MinInt+off, i, ok)
		}
		at := math.MaxInt - off
		i, ok := Index(at)
		if (at-114)%8 != 0 {
			if i != 0 || ok {
				t.Errorf("Index(%d): %d, %v", at, i, ok)
			}
		} else if i != (at-114)/8 || !ok {
			t.Errorf("Index(%d): %d, %v", at, i, ok)
		}
	}
}

func TestTwoExtentsHaveNoSectorTogether(t *testing.T) {
	owner := map[int]int{}
	for i := range Count(4096) {
		for at := Place(i); at < Place(i)+8; at++ {
			if other, is := owner[at]; is {
				t.Fatalf("the sector %d is of %d and of %d", at, other, i)
			}
			if at < 114 || at >= 4096 {
				t.Fatalf("the extent %d has the sector %d", i, at)
			}
			owner[at] = i
		}
	}
}
