package group

import (
	"math"
	"math/rand"
	"slices"
	"testing"
)

// plainPick is Pick as the chapter tells it: one by one, that with the most room of those that are left.
func plainPick(rooms []int, width int, banned []int) ([]int, bool) {
	left := map[int]int{}
	for d, room := range rooms {
		if room > 0 && !slices.Contains(banned, d) {
			left[d] = room
		}
	}
	if width < 1 || len(left) < width {
		return nil, false
	}
	var l []int
	for len(l) < width {
		best := -1
		for d := range rooms {
			if left[d] > 0 && (best < 0 || left[d] > left[best]) {
				best = d
			}
		}
		delete(left, best)
		l = append(l, best)
	}
	return l, true
}

func wantPick(t *testing.T, rooms []int, width int, banned []int, want []int) {
	t.Helper()
	if l, ok := pick(t, rooms, width, banned); !slices.Equal(l, want) || ok != (want != nil) {
		t.Errorf("Pick(%v, %d, %v): %v, %v, not %v", rooms, width, banned, l, ok, want)
	}
}

func TestTheChaptersExampleOfPick(t *testing.T) {
	wantPick(t, []int{1, 3, 3, 0, 2}, 2, []int{2}, []int{1, 4})
}

func TestPickOfAllWidths(t *testing.T) {
	rooms := []int{1, 3, 3, 0, 2, -4, 3}
	all := []int{1, 2, 6, 4, 0}
	for width := 1; width <= 5; width++ {
		wantPick(t, rooms, width, nil, all[:width])
	}
	for _, width := range []int{math.MinInt, -1 << 40, -5, -1, 0, 6, 7, 8, 1 << 40, math.MaxInt} {
		wantPick(t, rooms, width, nil, nil)
	}
}

func TestPickOfNoDisks(t *testing.T) {
	for _, width := range []int{math.MinInt, -1, 0, 1, 2, math.MaxInt} {
		for _, banned := range [][]int{nil, {}, {0}, strangers} {
			wantPick(t, nil, width, banned, nil)
			wantPick(t, []int{}, width, banned, nil)
			wantPick(t, []int{0, -1, math.MinInt, 0}, width, banned, nil)
		}
	}
}

func TestPickOfNilLists(t *testing.T) {
	if l, ok := Pick(nil, 1, nil); len(l) != 0 || ok {
		t.Errorf("%v, %v", l, ok)
	}
	if l, ok := Pick([]int{4}, 1, nil); !slices.Equal(l, []int{0}) || !ok {
		t.Errorf("%v, %v", l, ok)
	}
}

// Rooms below 0 count as 0: no disk that has such a one is picked, however few others there are.
func TestPickPassesOverDisksWithoutRoom(t *testing.T) {
	wantPick(t, []int{-1, 1, 0, 2, math.MinInt}, 2, nil, []int{3, 1})
	wantPick(t, []int{-1, 1, 0, 2, math.MinInt}, 3, nil, nil)
	wantPick(t, []int{-9, -9, 1}, 1, nil, []int{2})
	wantPick(t, []int{-9, -9, 0}, 1, nil, nil)
}

func TestPickOfRoomsThatAreAlike(t *testing.T) {
	wantPick(t, []int{5, 5, 5, 5}, 3, nil, []int{0, 1, 2})
	wantPick(t, []int{5, 5, 5, 5}, 4, nil, []int{0, 1, 2, 3})
	wantPick(t, []int{5, 5, 5, 5}, 3, []int{1}, []int{0, 2, 3})
	wantPick(t, []int{1, 2, 1, 2, 1}, 4, nil, []int{1, 3, 0, 2})
	many := make([]int, 600)
	for d := range many {
		many[d] = 1 + d%2
	}
	l, ok := pick(t, many, 600, nil)
	for i, d := range l {
		if want := (2*i + 1) % 601; d != want { // all odd ones, and then the even ones
			t.Fatalf("the place %d: %d, not %d", i, d, want)
		}
	}
	if !ok || len(l) != 600 {
		t.Fatalf("%d, %v", len(l), ok)
	}
}

func TestPickOfTheGreatestRooms(t *testing.T) {
	rooms := []int{math.MaxInt - 1, 1, math.MaxInt, math.MinInt, math.MaxInt - 1, math.MinInt + 1}
	wantPick(t, rooms, 4, nil, []int{2, 0, 4, 1})
	wantPick(t, rooms, 5, nil, nil)
}

func TestPickOfBannedOnes(t *testing.T) {
	rooms := []int{4, 3, 2, 1}
	wantPick(t, rooms, 1, []int{0}, []int{1})
	wantPick(t, rooms, 3, []int{0}, []int{1, 2, 3})
	wantPick(t, rooms, 4, []int{0}, nil)
	wantPick(t, rooms, 1, []int{3, 1, 0}, []int{2})
	wantPick(t, rooms, 1, []int{3, 1, 0, 2}, nil)
	// Twice over, a number bans no more than once.
	wantPick(t, rooms, 3, []int{2, 2, 2}, []int{0, 1, 3})
	wantPick(t, rooms, 2, []int{3, 0, 3, 0, 0}, []int{1, 2})
	// Numbers that are no disk ban none.
	wantPick(t, rooms, 4, strangers, []int{0, 1, 2, 3})
	wantPick(t, rooms, 4, []int{4, -1, 5, -2, -3, -4}, []int{0, 1, 2, 3})
	wantPick(t, rooms, 3, append([]int{1, 1}, strangers...), []int{0, 2, 3})
	// Nor does it matter that a disk without room is banned.
	wantPick(t, []int{0, 3, -2}, 1, []int{0, 2}, []int{1})
}

// All rooms from -1 to 3 of up to five disks, all widths, and all sets of banned ones.
func TestPickOfAllSmallLists(t *testing.T) {
	var rooms []int
	var each func()
	each = func() {
		for set := range 1 << len(rooms) {
			var banned []int
			for d := range rooms {
				if set>>d&1 == 1 {
					banned = append([]int{d}, banned...)
				}
			}
			for width := -1; width <= len(rooms)+1; width++ {
				want, _ := plainPick(rooms, width, banned)
				wantPick(t, rooms, width, banned, want)
			}
		}
		if len(rooms) == 4 {
			return
		}
		for room := -1; room <= 3; room++ {
			rooms = append(rooms, room)
			each()
			rooms = rooms[:len(rooms)-1]
		}
	}
	each()
}

func TestPickOfManyLists(t *testing.T) {
	r := rand.New(rand.NewSource(7))
	for range 3000 {
		rooms := make([]int, r.Intn(40))
		for d := range rooms {
			rooms[d] = r.Intn(9) - 2
		}
		banned := make([]int, r.Intn(30))
		for i := range banned {
			banned[i] = r.Intn(60) - 10
		}
		width := r.Intn(len(rooms) + 3)
		want, _ := plainPick(rooms, width, banned)
		wantPick(t, rooms, width, banned, want)
	}
}

func TestPickedOnesAreTheCallers(t *testing.T) {
	rooms, banned := []int{5, 4, 3, 2}, []int{3}
	first, _ := Pick(rooms, 2, banned)
	second, _ := Pick(rooms, 2, banned)
	_ = append(first[:0], 44, 45, 46)
	if !slices.Equal(second, []int{0, 1}) {
		t.Errorf("written over: %v", second)
	}
	// Who owns what was handed in may write over it.
	rooms[0], banned[0] = -1, 0
	if !slices.Equal(second, []int{0, 1}) {
		t.Errorf("written over: %v", second)
	}
}
