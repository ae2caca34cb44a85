package policy

import (
	"math"
	"math/rand"
	"testing"

	"braidwork/api"
)

// uneven is a row of which something is worth to be moved, even one of which nothing is.
var uneven, even = []plain{{4, 8}, {1, 8}, {3, 8}}, []plain{{3, 8}, {2, 8}, {3, 8}}

// load is one that is hot, of groups of 16 slots.
func load(free, holes, live int) api.Load {
	return api.Load{Hot: 5, Bound: 4, Free: free, Holes: holes, Clean: live, Slots: 16}
}

func TestTheConstants(t *testing.T) {
	if l := [...]int{Nothing, Demote, Plug, Clean, Balance}; l != [...]int{0, 1, 2, 3, 4} {
		t.Errorf("%v", l)
	}
}

func TestChooseOfAHotLoad(t *testing.T) {
	for name, row := range map[string]struct {
		l    api.Load
		want int
	}{
		"a stripe is free":                  {load(1, 0, -1), Demote},
		"a stripe is free, ahead of all":    {load(1, 100, 0), Demote},
		"many are":                          {load(20, 100, 3), Demote},
		"none is":                           {load(0, 100, 3), Clean},
		"fewer than none":                   {load(-1, 100, 3), Clean},
		"there is nothing":                  {load(0, 0, -1), Nothing},
		"there is nothing, -1 everywhere":   {load(-1, -1, -1), Nothing},
		"a group that nobody lives in":      {load(0, 16, 0), Clean},
		"the same, and a hole too few":      {load(0, 15, 0), Plug},
		"the same, and a hole more":         {load(0, 17, 0), Clean},
		"no group":                          {load(0, 100, -1), Plug},
		"no group, below -1":                {load(0, 100, -2), Plug},
		"no group, and a hole":              {load(0, 1, -1), Plug},
		"one lives, holes as many":          {load(0, 16, 1), Clean}, // 15 of them are its own
		"one lives, a hole too few":         {load(0, 15, 1), Plug},
		"half of it lives, holes as many":   {load(0, 16, 8), Clean}, // 8 are its own, 8 another's
		"half of it lives, a hole too few":  {load(0, 15, 8), Plug},
		"half of it lives, a hole more":     {load(0, 17, 8), Clean},
		"one more than half lives":          {load(0, 100, 9), Plug},
		"one more than half lives, no hole": {load(0, 0, 9), Nothing},
		"all of it lives":                   {load(0, 100, 16), Plug},
		"more than all of it":               {load(0, 100, 17), Plug},
		"one hole":                          {load(0, 1, 8), Plug},
		"no hole":                           {load(0, 0, 8), Nothing},
		"fewer holes than none":             {load(0, -1, 8), Nothing},
		"half of slots that are odd":        {api.Load{Hot: 1, Holes: 15, Clean: 7, Slots: 15}, Clean},
		"more than half of these":           {api.Load{Hot: 1, Holes: 15, Clean: 8, Slots: 15}, Plug},
		"groups without slots":              {api.Load{Hot: 1}, Clean}, // as many holes as are asked for: none
		"the same, and -1 holes":            {api.Load{Hot: 1, Holes: -1}, Nothing},
		"fewer slots than none":             {api.Load{Hot: 1, Holes: 5, Slots: -1}, Plug},
		"just above the bound":              {api.Load{Hot: 1, Bound: 0, Free: 1}, Demote},
		"above a bound below 0":             {api.Load{Hot: 0, Bound: -1, Free: 1}, Demote},
		"far above it":                      {api.Load{Hot: 96, Bound: 0, Free: 1}, Demote},
	} {
		for _, l := range [][]plain{nil, even, uneven} { // what is even or not is not asked of a load that is hot
			row.l.Fractions = numbers(l)
			if do := Choose(row.l); do != row.want {
				t.Errorf("%s: Choose(%+v): %d, not %d", name, row.l, do, row.want)
			}
			saysChoose(t, row.l, l)
		}
	}
}

func TestChooseOfALoadThatIsNotHot(t *testing.T) {
	for name, row := range map[string]struct {
		l    []plain
		want int
	}{
		"none":                           {nil, Nothing},
		"no elements":                    {[]plain{}, Nothing},
		"one":                            {[]plain{{8, 8}}, Nothing},
		"all the same":                   {[]plain{{5, 8}, {5, 8}, {5, 8}}, Nothing},
		"even":                           {even, Nothing},
		"uneven":                         {uneven, Balance},
		"uneven by one extent":           {[]plain{{4, 8}, {3, 8}, {4, 8}}, Nothing},
		"uneven by two":                  {[]plain{{5, 8}, {3, 8}, {4, 8}}, Balance},
		"uneven by two, turned round":    {[]plain{{4, 8}, {3, 8}, {5, 8}}, Balance},
		"uneven, and unlike":             {[]plain{{3, 4}, {1, 2}}, Nothing},
		"a small one has no room for it": {[]plain{{5, 10}, {0, 1}}, Nothing},
		"a great one has":                {[]plain{{5, 10}, {0, 1}, {400, 1000}}, Balance},
		"all full":                       {[]plain{{2, 2}, {9, 9}}, Nothing},
		"all empty":                      {[]plain{{0, 2}, {0, 9}}, Nothing},
		"the fullest is the last":        {[]plain{{0, 9}, {1, 9}, {9, 9}}, Balance},
	} {
		for _, n := range [][2]int{{0, 0}, {0, 4}, {3, 4}, {4, 4}, {-1, 0}, {-1, -1}, {-2, -1}, {-1, -2}, {math.MinInt, math.MaxInt}} {
			for _, load := range []api.Load{{}, {Free: 1, Holes: 100, Clean: 3, Slots: 16}, {Holes: 100, Clean: 3, Slots: 16}, {Holes: 1, Clean: -1}} { // not asked
				load.Hot, load.Bound, load.Fractions = n[0], n[1], numbers(row.l)
				if do := Choose(load); do != row.want {
					t.Errorf("%s: Choose(%+v): %d, not %d", name, load, do, row.want)
				}
			}
		}
	}
}

// Numbers below -1 count as -1, those above 2^20 as 2^20.
func TestChooseAtTheEdges(t *testing.T) {
	const half, most = 1 << 19, 1 << 20
	for name, row := range map[string]struct {
		l    api.Load
		want int
	}{
		"both count as 2^20":                  {api.Load{Hot: most + 1, Bound: most, Free: 1}, Balance},
		"both count as 2^20, far above":       {api.Load{Hot: math.MaxInt, Bound: most + 1, Free: 1}, Balance},
		"2^20 against one less":               {api.Load{Hot: most, Bound: most - 1, Free: 1}, Demote},
		"more than 2^20 against one less":     {api.Load{Hot: math.MaxInt, Bound: most - 1, Free: 1}, Demote},
		"both count as -1":                    {api.Load{Hot: -1, Bound: -2, Free: 1}, Balance},
		"both count as -1, far below":         {api.Load{Hot: -2, Bound: math.MinInt, Free: 1}, Balance},
		"0 against the least number":          {api.Load{Hot: 0, Bound: math.MinInt, Free: 1}, Demote},
		"the greatest against the least":      {api.Load{Hot: math.MaxInt, Bound: math.MinInt, Free: 1}, Demote},
		"the least against the greatest":      {api.Load{Hot: math.MinInt, Bound: math.MaxInt, Free: 1}, Balance},
		"the greatest number is free":         {api.Load{Hot: 1, Free: math.MaxInt}, Demote},
		"the least number is":                 {api.Load{Hot: 1, Free: math.MinInt, Holes: 1, Clean: -1}, Plug},
		"the greatest number of holes":        {api.Load{Hot: 1, Holes: math.MaxInt, Clean: -1}, Plug},
		"the least number of holes":           {api.Load{Hot: 1, Holes: math.MinInt, Clean: -1}, Nothing},
		"the least number of holes, no slots": {api.Load{Hot: 1, Holes: math.MinInt}, Nothing},
		"holes and slots both count as 2^20":  {api.Load{Hot: 1, Holes: most, Clean: half, Slots: most + 1}, Clean},
		"the same, far above":                 {api.Load{Hot: 1, Holes: most + 1, Clean: half, Slots: math.MaxInt}, Clean},
		"one hole too few for that":           {api.Load{Hot: 1, Holes: most - 1, Clean: half, Slots: math.MaxInt}, Plug},
		"one more than half of 2^20":          {api.Load{Hot: 1, Holes: most, Clean: half + 1, Slots: math.MaxInt}, Plug},
		"the greatest number live":            {api.Load{Hot: 1, Holes: most, Clean: math.MaxInt, Slots: most}, Plug},
		"twice of it has no room in an int":   {api.Load{Hot: 1, Holes: most, Clean: 1 << 62, Slots: most}, Plug},
		"four times of it neither":            {api.Load{Hot: 1, Holes: most, Clean: math.MinInt, Slots: most}, Plug},
		"all at the greatest number":          {api.Load{Hot: math.MaxInt, Holes: math.MaxInt, Clean: math.MaxInt, Slots: math.MaxInt}, Plug},
		"the least number of slots":           {api.Load{Hot: 1, Holes: most, Slots: math.MinInt}, Plug},
		"all at the least number, but Hot":    {api.Load{Hot: 1, Bound: math.MinInt, Free: math.MinInt, Holes: math.MinInt, Clean: math.MinInt, Slots: math.MinInt}, Nothing},
		"bits above the thirty-second":        {api.Load{Hot: 1 << 32, Free: 1 << 32}, Demote},
	} {
		row.l.Fractions = numbers(uneven)
		if do := Choose(row.l); do != row.want {
			t.Errorf("%s: Choose(%+v): %d, not %d", name, row.l, do, row.want)
		}
	}
}

// All loads whose numbers are at the edges.
func TestAllLoadsAtTheEdges(t *testing.T) {
	all := []int{math.MinInt, -2, -1, 0, 1, 1 << 19, 1 << 20, 1<<20 + 1, math.MaxInt}
	for _, hot := range all {
		for _, bound := range all {
			for _, free := range all {
				for _, holes := range all {
					for _, live := range all {
						for _, slots := range all {
							saysChoose(t, api.Load{Hot: hot, Bound: bound, Free: free, Holes: holes, Clean: live, Slots: slots}, uneven)
						}
					}
				}
			}
		}
	}
}

// All loads of small groups.
func TestAllSmallLoads(t *testing.T) {
	seen := map[int]int{}
	for free := -1; free <= 1; free++ {
		for holes := -2; holes <= 20; holes++ {
			for live := -2; live <= 9; live++ {
				for slots := -2; slots <= 16; slots++ {
					for hot := -1; hot <= 1; hot++ {
						l := api.Load{Hot: hot, Bound: 0, Free: free, Holes: holes, Clean: live, Slots: slots}
						saysChoose(t, l, even)
						seen[Choose(l)]++
					}
				}
			}
		}
	}
	for _, do := range []int{Nothing, Demote, Plug, Clean} {
		if seen[do] < 100 {
			t.Errorf("%d was answered %d times", do, seen[do])
		}
	}
}

func TestManyLoads(t *testing.T) {
	r := rand.New(rand.NewSource(7))
	seen := map[int]int{}
	for range 5000 {
		slots := 8 * (2 + r.Intn(11))
		load := api.Load{Hot: r.Intn(20), Bound: r.Intn(20), Free: r.Intn(3), Holes: r.Intn(2 * slots), Clean: r.Intn(slots+2) - 1, Slots: slots}
		l := row(r)
		saysChoose(t, load, l)
		load.Fractions = numbers(l)
		seen[Choose(load)]++
	}
	for _, do := range []int{Nothing, Demote, Plug, Clean, Balance} {
		if seen[do] < 100 {
			t.Errorf("%d was answered %d times", do, seen[do])
		}
	}
}

// Loads whose fractions are none's, whatever is answered.
func TestLoadsOfNoFractions(t *testing.T) {
	var l []complex128
	for _, used := range no {
		for _, capacity := range no {
			l = append(l, complex(used, capacity))
		}
	}
	for i := range l {
		if do := Choose(api.Load{Fractions: l[i:]}); do != Nothing && do != Balance {
			t.Fatalf("Choose of %v: %d", l[i:], do)
		}
		if do := Choose(api.Load{Hot: 1, Free: 1, Fractions: l[i:]}); do != Demote {
			t.Fatalf("Choose of %v, and hot: %d", l[i:], do)
		}
	}
}
