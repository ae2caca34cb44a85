package policy

import (
	"math"
	"math/rand"
	"testing"
)

func TestSpread(t *testing.T) {
	for name, row := range map[string]struct {
		l        []plain
		from, to int
		ok       bool
	}{
		"none":                             {nil, 0, 0, false},
		"no elements":                      {[]plain{}, 0, 0, false},
		"one":                              {[]plain{{3, 4}}, 0, 0, true},
		"an empty one":                     {[]plain{{0, 1}}, 0, 0, true},
		"a full one":                       {[]plain{{4, 4}}, 0, 0, true},
		"two":                              {[]plain{{1, 4}, {3, 4}}, 1, 0, true},
		"two turned round":                 {[]plain{{3, 4}, {1, 4}}, 0, 1, true},
		"all the same":                     {[]plain{{2, 4}, {2, 4}, {2, 4}}, 0, 0, true},
		"several fullest":                  {[]plain{{1, 4}, {3, 4}, {2, 4}, {3, 4}, {3, 4}}, 1, 0, true},
		"several fullest that are unlike":  {[]plain{{1, 9}, {6, 8}, {3, 4}, {9, 12}}, 1, 0, true},
		"the same, another one first":      {[]plain{{9, 12}, {3, 4}, {1, 9}, {6, 8}}, 0, 2, true},
		"several least":                    {[]plain{{3, 4}, {1, 4}, {2, 4}, {1, 4}, {1, 4}}, 0, 1, true},
		"several least that are unlike":    {[]plain{{3, 4}, {2, 9}, {1, 6}, {0, 3}}, 0, 1, true}, // 3 of 9, 2 of 6, 1 of 3
		"the least is the last":            {[]plain{{3, 4}, {2, 4}, {1, 4}}, 0, 2, true},
		"the fullest is the last":          {[]plain{{1, 4}, {2, 4}, {3, 4}}, 2, 0, true},
		"both the same place":              {[]plain{{5, 10}, {0, 1}}, 0, 0, true}, // 6 of 10, and 1 of 1
		"both the same place, not first":   {[]plain{{0, 1}, {0, 1}, {50, 100}, {0, 1}}, 2, 2, true},
		"a small one would be fuller":      {[]plain{{1, 2}, {60, 100}}, 1, 1, true},
		"a small one that is emptier":      {[]plain{{9, 10}, {0, 2}, {30, 100}}, 0, 2, true}, // 1 of 2, 31 of 100
		"all full":                         {[]plain{{2, 2}, {9, 9}, {4, 4}}, 0, 1, true},     // 10 of 9 is the least
		"all empty":                        {[]plain{{0, 3}, {0, 4}, {0, 2}, {0, 4}}, 0, 1, true},
		"the greatest against one less":    {[]plain{{1, 1 << 20}, {1, 1<<20 - 1}}, 1, 0, true},
		"one less against the greatest":    {[]plain{{1, 1<<20 - 1}, {1, 1 << 20}}, 0, 1, true},
		"both but one full":                {[]plain{{1<<20 - 2, 1<<20 - 1}, {1<<20 - 1, 1 << 20}}, 1, 0, true}, // then both are full
		"more members than there are ever": {[]plain{{1, 2}, {1, 2}, {1, 2}, {1, 2}, {1, 2}, {1, 2}, {1, 2}, {1, 2}, {1, 2}, {1, 2}, {1, 2}, {1, 2}, {2, 2}, {0, 2}}, 12, 13, true},
	} {
		from, to, ok := Spread(numbers(row.l))
		if from != row.from || to != row.to || ok != row.ok {
			t.Errorf("%s: Spread(%v): %d, %d, %v, not %d, %d, %v", name, row.l, from, to, ok, row.from, row.to, row.ok)
		}
		says(t, row.l)
	}
}

func TestWorth(t *testing.T) {
	for name, row := range map[string]struct {
		l        []plain
		from, to int
		want     bool
	}{
		"the chapter's first":           {[]plain{{3, 4}, {1, 2}}, 0, 1, false}, // 2 of 2
		"the chapter's second":          {[]plain{{4, 8}, {1, 8}}, 0, 1, true},
		"turned round":                  {[]plain{{4, 8}, {1, 8}}, 1, 0, false},
		"the first one is the emptier":  {[]plain{{1, 8}, {4, 8}}, 1, 0, true},
		"both would be turned round":    {[]plain{{4, 8}, {4, 8}}, 0, 1, false},
		"both would be as full":         {[]plain{{5, 8}, {4, 8}}, 0, 1, false}, // 5 of 8 both
		"both would be as full, unlike": {[]plain{{4, 8}, {1, 4}}, 0, 1, false}, // 2 of 4
		"one less would be as full":     {[]plain{{6, 8}, {4, 8}}, 0, 1, true},
		"just more than as full":        {[]plain{{1<<19 + 1, 1 << 20}, {1, 4}}, 0, 1, true},
		"just not more than as full":    {[]plain{{1 << 19, 1 << 20}, {1, 4}}, 0, 1, false},
		"full to empty":                 {[]plain{{2, 2}, {0, 2}}, 0, 1, true},
		"full to an empty one of one":   {[]plain{{2, 2}, {0, 1}}, 0, 1, false},
		"full to full":                  {[]plain{{2, 2}, {9, 9}}, 0, 1, false},
		"full to nearly full":           {[]plain{{2, 2}, {8, 9}}, 0, 1, false},
		"full to full but two":          {[]plain{{2, 2}, {7, 9}}, 0, 1, true},
		"empty to empty":                {[]plain{{0, 2}, {0, 9}}, 0, 1, false},
		"one to itself":                 {[]plain{{2, 2}}, 0, 0, false},
		"one of several to itself":      {[]plain{{0, 9}, {2, 2}, {0, 9}}, 1, 1, false},
		"the greatest to itself":        {[]plain{{1 << 20, 1 << 20}}, 0, 0, false},
		"to the last place":             {[]plain{{3, 8}, {8, 8}, {0, 8}}, 1, 2, true},
		"from the last place":           {[]plain{{0, 8}, {3, 8}, {8, 8}}, 2, 0, true},
		"from below 0":                  {[]plain{{8, 8}, {0, 8}}, -1, 1, false},
		"to below 0":                    {[]plain{{8, 8}, {0, 8}}, 0, -1, false},
		"from behind the last place":    {[]plain{{0, 8}, {8, 8}}, 2, 0, false},
		"to behind the last place":      {[]plain{{8, 8}, {0, 8}}, 0, 2, false},
		"of none":                       {nil, 0, 0, false},
		"from and to below 0, of none":  {nil, -1, -1, false},
	} {
		if worth := Worth(numbers(row.l), row.from, row.to); worth != row.want {
			t.Errorf("%s: Worth(%v, %d, %d): %v", name, row.l, row.from, row.to, worth)
		}
		says(t, row.l)
	}
}

// Worth of numbers that are no places, where it would be true of the first and the last.
func TestWorthOfNoPlaces(t *testing.T) {
	for _, l := range [][]plain{{{8, 8}, {3, 8}, {0, 8}}, {{0, 8}, {3, 8}, {8, 8}}, {{8, 8}}, nil} {
		for _, n := range strangers {
			for i := range l {
				saysWorth(t, l, n, i)
				saysWorth(t, l, i, n)
			}
			for _, other := range strangers {
				saysWorth(t, l, n, other)
			}
		}
	}
	if Worth(numbers([]plain{{8, 8}, {0, 8}}), 0, 1<<32+1) || Worth(numbers([]plain{{8, 8}, {0, 8}}), math.MinInt, 1) {
		t.Error("Worth of no place")
	}
}

// What stands behind the end of a row is none of its places.
func TestRowsThatHaveRoom(t *testing.T) {
	all := numbers([]plain{{3, 8}, {0, 8}, {8, 8}, {0, 1 << 20}})
	l := all[:2]
	if from, to, ok := Spread(l); from != 0 || to != 1 || !ok {
		t.Errorf("Spread: %d, %d, %v", from, to, ok)
	}
	for _, row := range [][2]int{{2, 1}, {0, 3}, {2, 3}} {
		if Worth(l, row[0], row[1]) {
			t.Errorf("Worth of %d and %d", row[0], row[1])
		}
	}
	if from, to, ok := Spread(all[:0]); from != 0 || to != 0 || ok {
		t.Errorf("Spread of none: %d, %d, %v", from, to, ok)
	}
	stays(t, all, []plain{{3, 8}, {0, 8}, {8, 8}, {0, 1 << 20}})
}

// All rows of up to three of the fractions that there are of small capacities.
func TestAllShortRows(t *testing.T) {
	l := few(4)
	for _, a := range l {
		says(t, []plain{a})
		for _, b := range l {
			says(t, []plain{a, b})
			for _, c := range l {
				says(t, []plain{a, b, c})
			}
		}
	}
	for _, a := range great {
		for _, b := range great {
			says(t, []plain{a, b})
		}
	}
}

func TestManyRows(t *testing.T) {
	r := rand.New(rand.NewSource(17))
	for range 3000 {
		l := row(r)
		saysSpread(t, l)
		from, to, _ := plainSpread(l)
		saysWorth(t, l, from, to)
		saysWorth(t, l, r.Intn(len(l)+2)-1, r.Intn(len(l)+2)-1)
	}
}

// row is one to twelve fractions, of capacities that differ much or little.
func row(r *rand.Rand) []plain {
	l := make([]plain, 1+r.Intn(12))
	greatest := []int{2, 5, 20, 498, 1 << 20}[r.Intn(5)]
	for i := range l {
		of := 1 + r.Intn(greatest)
		l[i] = plain{r.Intn(of + 1), of}
	}
	return l
}
